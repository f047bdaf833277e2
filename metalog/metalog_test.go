package metalog

import (
	"fmt"
	"iter"
	"maps"
	"math"
	"slices"
	"strings"
	"testing"

	"headgate/api"
	"headgate/simfs"
)

// must holds that the calls that answered l were OK.
func must(t *testing.T, l ...api.Errno) {
	t.Helper()
	for i, e := range l {
		if e != api.OK {
			t.Fatalf("call %d of these: %d", i, e)
		}
	}
}

// want holds what a call answered against an error.
func want(t *testing.T, what string, e, wanted api.Errno) {
	t.Helper()
	if e != wanted {
		t.Errorf("%s: %d, not %d", what, e, wanted)
	}
}

// empty answers a file system with much room, and a log in it.
func empty(t *testing.T) (*simfs.FS, *Log) {
	t.Helper()
	f := scenes()[0].made(t)
	return f, opened(t, f)
}

// opened answers the log of the directory d.
func opened(t *testing.T, f *simfs.FS) *Log {
	t.Helper()
	l, e := Open(f, "d")
	if l == nil || e != api.OK {
		t.Fatalf("P9.1: Open: %v, %d", l, e)
	}
	return l
}

// lists holds d's names against names.
func lists(t *testing.T, f *simfs.FS, names ...string) {
	t.Helper()
	if l, e := f.List("d"); !slices.Equal(l, names) || e != api.OK {
		t.Errorf("List: %q, %d, not %q", l, e, names)
	}
}

// tells answers all that a log tells of its entries, if it tells the same in all ways.
func tells(l *Log) string {
	var ids []int64
	s := ""
	for id, b := range l.All() {
		got, e := l.Get(id)
		if e != api.OK || string(got) != string(b) {
			return fmt.Sprintf("Get(%d) tells %q, %d, and All %q", id, got, e, b)
		}
		ids = append(ids, id)
		s += fmt.Sprintf("%d=%q ", id, b)
	}
	last, ok := l.Last()
	if len(ids) != l.Len() || !slices.IsSorted(ids) || ok != (len(ids) > 0) || ok && last != ids[len(ids)-1] || !ok && last != 0 {
		return fmt.Sprintf("%s, Len %d, Last %d, %v", s, l.Len(), last, ok)
	}
	for id := int64(-2); id < 6; id++ {
		if b, e := l.Get(id); !slices.Contains(ids, id) && (len(b) > 0 || e != api.ErrNone) {
			return fmt.Sprintf("Get(%d) tells %q, %d", id, b, e)
		}
	}
	return s
}

// told answers what tells is to answer of entries.
func told(m map[int64]string) string {
	s := ""
	for _, id := range slices.Sorted(maps.Keys(m)) {
		s += fmt.Sprintf("%d=%q ", id, m[id])
	}
	return s
}

// The chapter's examples.
func TestExamples(t *testing.T) {
	f, l := empty(t)
	must(t, l.Put(0, []byte("x")), l.Put(1, []byte("y")), l.Fold(0))
	lists(t, f, "b."+plainHex(1), "f."+plainHex(0))
	want(t, "P9.2: Put(1, z)", l.Put(1, []byte("z")), api.ErrClash)
	must(t, l.Purge(1))
	lists(t, f, "b."+plainHex(1))
	if s := tells(l); s != `1="y" ` {
		t.Errorf("P9.4: %s", s)
	}
}

// An op is a call that may change a log, and what the chapter's words make of it.
type op struct {
	what  string
	do    func(*Log) api.Errno
	plain func(*plainLog) api.Errno
	// What a Put puts.
	puts    entriesOf
	isPurge bool
}

// done answers entries behind o, if it is no Purge.
func (o op) done(ahead entriesOf) entriesOf {
	m := maps.Clone(o.puts)
	if m == nil {
		m = entriesOf{}
	}
	maps.Copy(m, ahead)
	return m
}

func put(id int64, b string) op {
	return op{
		what:  fmt.Sprintf("Put(%d, %q)", id, b),
		do:    func(l *Log) api.Errno { return l.Put(id, []byte(b)) },
		plain: func(l *plainLog) api.Errno { return l.Put(id, b) },
		puts:  entriesOf{id: b},
	}
}

func fold(upto int64) op {
	return op{
		what:  fmt.Sprintf("Fold(%d)", upto),
		do:    func(l *Log) api.Errno { return l.Fold(upto) },
		plain: func(l *plainLog) api.Errno { return l.Fold(upto) },
	}
}

func purge(below int64) op {
	return op{
		what:    fmt.Sprintf("Purge(%d)", below),
		do:      func(l *Log) api.Errno { return l.Purge(below) },
		plain:   func(l *plainLog) api.Errno { return l.Purge(below) },
		isPurge: true,
	}
}

// ops answers calls of few numbers, so that they come upon one another.
func ops() []op {
	return []op{
		put(0, "x"), put(0, "y"), put(1, ""), put(2, "z"), put(3, "s"),
		fold(-1), fold(0), fold(1), fold(2), fold(3), purge(0), purge(1), purge(2), purge(4),
	}
}

// inTurn does ops on a log and a plain one, and holds all that is to be seen of both against each other behind each.
func inTurn(t *testing.T, s scene, l []op) {
	t.Helper()
	f, p := s.made(t), s.made(t)
	log := opened(t, f)
	plain, e := plainOpen(p, "d")
	must(t, e)
	what := "P9.1: " + s.what
	for i := 0; ; i++ {
		if !seenOf(f).same(seenOf(p)) {
			t.Fatalf("%s: %v, not %v", what, seenOf(f), seenOf(p))
		}
		if got, wanted := tells(log), told(plain.entries()); got != wanted {
			t.Fatalf("%s: %s, not %s", what, got, wanted)
		}
		if i == len(l) {
			break
		}
		what += ", " + l[i].what
		if got, wanted := l[i].do(log), l[i].plain(plain); got != wanted {
			t.Fatalf("P9.2, P9.3, P9.4: %s: %d, not %d", what, got, wanted)
		}
	}
	must(t, f.Crash())
	steps := f.Steps()
	if got, wanted := tells(opened(t, f)), told(plain.entries()); got != wanted || f.Steps() != steps {
		t.Fatalf("P9.1: %s, opened anew: %s, not %s", what, got, wanted)
	}
}

// P9.1 to P9.4: calls in a row, each behind each, as the chapter's words say.
func TestCallsInARow(t *testing.T) {
	for i, s := range scenes() {
		for _, a := range ops() {
			for _, b := range ops() {
				for _, c := range ops() {
					inTurn(t, s, []op{a, b, c})
					// Of scenes with files three calls are as telling as four are of none.
					if i > 0 {
						continue
					}
					for _, d := range ops() {
						inTurn(t, s, []op{a, b, c, d})
					}
				}
			}
		}
	}
}

// P9.1 to P9.4: many calls of more numbers, opened anew now and then.
func TestManyCalls(t *testing.T) {
	x := uint32(1)
	next := func(n int64) int64 {
		x = x*1664525 + 1013904223
		return int64(x>>16) % n
	}
	f, p := scenes()[0].made(t), scenes()[0].made(t)
	log := opened(t, f)
	plain, _ := plainOpen(p, "d")
	for i := range 1500 {
		o := put(next(300), strings.Repeat("b", int(next(3))))
		switch next(20) {
		case 0:
			o = fold(next(320) - 10)
		case 1:
			o = purge(next(120) - 10)
		case 2:
			log = opened(t, f)
		}
		if got, wanted := o.do(log), o.plain(plain); got != wanted {
			t.Fatalf("call %d, %s: %d, not %d", i, o.what, got, wanted)
		}
		if got, wanted := tells(log), told(plain.entries()); got != wanted || !seenOf(f).same(seenOf(p)) {
			t.Fatalf("call %d, %s: %s, not %s", i, o.what, got, wanted)
		}
	}
}

// P9.1: of a file system without power, or a name that is none.
func TestOpenWithoutReady(t *testing.T) {
	f := scenes()[2].made(t)
	many := scenes()[0].made(t)
	for i := range api.MaxDirs {
		must(t, many.Mkdir(fmt.Sprint("d", i)))
	}
	off := scenes()[2].made(t)
	must(t, off.Fuse(0))
	want(t, "a step without power", off.Mkdir("e"), api.ErrDown)
	for _, c := range []struct {
		what   string
		f      *simfs.FS
		dir    string
		wanted api.Errno
	}{
		{"no file system", nil, "d", api.ErrNil},
		{"no file system, no name", nil, "", api.ErrNil},
		{"no power", off, "d", api.ErrDown},
		{"no power, no name", off, "D", api.ErrDown},
		{"no name", f, "", api.ErrName},
		{"great letters", f, "D", api.ErrName},
		{"long", f, strings.Repeat("d", 33), api.ErrName},
		{"too many", many, "d", api.ErrMany},
	} {
		if l, e := Open(c.f, c.dir); l != nil || e != c.wanted {
			t.Errorf("P9.1: Open, %s: %v, %d, not %d", c.what, l, e, c.wanted)
		}
	}
	for n := range 3 {
		g := scenes()[1].made(t)
		must(t, g.Fuse(n))
		if l, e := Open(g, "d"); l != nil || e != api.ErrDown {
			t.Errorf("P9.1: Open with a fuse of %d: %v, %d", n, l, e)
		}
	}
}

// wrongFolds answers what is no fold of the number 2.
func wrongFolds() map[string][]byte {
	zero, one, two, three := plainPair(plainHex(0), "a"), plainPair(plainHex(1), "b"), plainPair(plainHex(2), "c"), plainPair(plainHex(3), "d")
	return map[string][]byte{
		"no bytes":          nil,
		"junk":              []byte("junk"),
		"a frame of none":   plainFrame(""),
		"no entry":          plainFrame("\x00"),
		"no pairs":          plainFrame("\x01"),
		"bytes behind":      plainFrame("\x01" + two + "\x00"),
		"a frame behind":    append(plainFrame("\x01"+two), plainFrame("\x01"+two)...),
		"cut off":           plainFrame("\x01" + two)[:20],
		"not framed":        []byte("\x01" + two),
		"another number":    plainFrame("\x01" + one),
		"a greater number":  plainFrame("\x02" + two + three),
		"falling":           plainFrame("\x02" + two + one),
		"not rising":        plainFrame("\x03" + one + zero + two),
		"a number twice":    plainFrame("\x02" + two + two),
		"another one twice": plainFrame("\x03" + one + one + two),
		"no number":         plainFrame("\x02" + plainPair("", "a") + two),
		"no number, last":   plainFrame("\x02" + two + plainPair("z", "a")),
		"below 0":           plainFrame("\x02" + plainPair(plainHex(-1), "a") + two),
		"below 0, last":     plainFrame("\x02" + two + plainPair(plainHex(-1), "a")),
		"great digits":      plainFrame("\x02" + plainPair("000000000000000A", "a") + two),
		"few digits":        plainFrame("\x02" + plainPair("0", "a") + two),
		"no digits of two":  plainFrame("\x01" + plainPair("b."+plainHex(2), "c")),
	}
}

// P9.1: folds and singles that are wrong; elder folds are not read, nor is a greater one where the name is another's.
func TestOpenOfWrongFiles(t *testing.T) {
	for what, b := range wrongFolds() {
		f := scenes()[0].made(t)
		must(t, f.Mkdir("d"))
		lay(t, f, entriesOf{0: "x", 3: "y"}, entriesOf{0: "x", 1: "y"})
		must(t, f.Plant("d", "f."+plainHex(2), b))
		was := seenOf(f)
		if l, e := Open(f, "d"); l != nil || e != api.ErrTorn || !seenOf(f).same(was) {
			t.Errorf("P9.1: a fold of %s: %v, %d", what, l, e)
		}
		lay(t, f, nil, entriesOf{1: "z", 4: "w"})
		if s := tells(opened(t, f)); s != `0="x" 1="z" 3="y" 4="w" ` {
			t.Errorf("P9.1: an elder fold of %s: %s", what, s)
		}
	}
	for _, id := range []int64{0, 1, 2, 3, 4} {
		for what, b := range map[string][]byte{"no bytes": nil, "junk": []byte("junk"), "two frames": append(plainFrame("a"), plainFrame("a")...)} {
			f := scenes()[4].made(t)
			must(t, f.Plant("d", "b."+plainHex(id), b))
			was := seenOf(f)
			if l, e := Open(f, "d"); l != nil || e != api.ErrTorn || !seenOf(f).same(was) {
				t.Errorf("P9.1: a single %d of %s: %v, %d", id, what, l, e)
			}
		}
	}
}

// P9.1: each bit of each file that counts.
func TestOpenOfTurnedBits(t *testing.T) {
	for _, name := range []string{"f." + plainHex(2), "b." + plainHex(0), "b." + plainHex(1), "b." + plainHex(3)} {
		f := scenes()[4].made(t)
		b, e := f.Read("d", name)
		must(t, e)
		for at := range 8 * len(b) {
			must(t, f.Spoil("d", name, at/8, 1<<(at%8)))
			if l, e := Open(f, "d"); l != nil || e != api.ErrTorn {
				t.Errorf("P9.1: %s with bit %d turned: %v, %d", name, at, l, e)
			}
			must(t, f.Spoil("d", name, at/8, 1<<(at%8)))
		}
		opened(t, f)
	}
}

// P9.2: numbers at their ends.
func TestNumbersOfPut(t *testing.T) {
	f, l := empty(t)
	steps := f.Steps()
	for _, id := range []int64{-1, -2, math.MinInt64, 1<<40 + 1, 1 << 41, math.MaxInt64} {
		want(t, fmt.Sprintf("P9.2: Put(%d)", id), l.Put(id, []byte("x")), api.ErrArg)
		if b, e := l.Get(id); len(b) > 0 || e != api.ErrNone {
			t.Errorf("P9.2: Get(%d): %q, %d", id, b, e)
		}
	}
	if f.Steps() != steps || l.Len() != 0 {
		t.Errorf("P9.2: %d steps, %d entries", f.Steps()-steps, l.Len())
	}
	if n, ok := l.Last(); n != 0 || ok {
		t.Errorf("P9.2: Last: %d, %v", n, ok)
	}
	must(t, l.Put(1<<40, []byte("most")), l.Put(0, nil))
	if n, ok := l.Last(); n != 1<<40 || !ok || l.Len() != 2 {
		t.Errorf("P9.2: Last: %d, %v", n, ok)
	}
	lists(t, f, "b.0000000000000000", "b.0000010000000000")
	must(t, l.Purge(math.MinInt64), l.Fold(math.MaxInt64))
	lists(t, f, "f.0000010000000000")
	steps = f.Steps()
	must(t, l.Fold(math.MinInt64), l.Fold(math.MaxInt64), l.Purge(1<<40))
	if f.Steps() != steps {
		t.Errorf("P9.3: %d steps", f.Steps()-steps)
	}
	must(t, l.Purge(math.MaxInt64))
	lists(t, f)
	want(t, "P9.3: Fold of nothing", l.Fold(math.MaxInt64), api.ErrNone)
	want(t, "P9.3: Fold of nothing", l.Fold(math.MinInt64), api.ErrNone)
}

// P9.2: what is there needs no power; what isn't does; the errors come in their order.
func TestWithoutPower(t *testing.T) {
	f, l := empty(t)
	must(t, l.Put(1, []byte("x")), l.Fold(1), f.Fuse(0))
	want(t, "a step without power", f.Mkdir("e"), api.ErrDown)
	must(t, l.Put(1, []byte("x")), l.Fold(0), l.Purge(1))
	want(t, "P9.2: Put of another entry", l.Put(1, nil), api.ErrClash)
	want(t, "P9.2: Put of no number", l.Put(-1, nil), api.ErrArg)
	if s := tells(l); s != `1="x" ` {
		t.Errorf("P9.2: %s", s)
	}
	want(t, "P9.4: Purge without power", l.Purge(2), api.ErrDown)
	want(t, "P9.2: Put without power", l.Put(0, nil), api.ErrDown)
}

// P9.2: errors of place.Put; the entry isn't there behind them.
func TestErrorsOfPut(t *testing.T) {
	f, l := empty(t)
	must(t, f.Room(20), l.Put(0, make([]byte, 12)))
	want(t, "P9.2: Put without room", l.Put(1, nil), api.ErrFull)
	must(t, f.Room(28))
	l = opened(t, f)
	lists(t, f, "b."+plainHex(0))
	want(t, "P9.2: Put of a long entry", l.Put(1, make([]byte, api.MaxFile-7)), api.ErrFrameLong)
	if b, e := l.Get(1); len(b) > 0 || e != api.ErrNone || l.Len() != 1 {
		t.Errorf("P9.2: Get behind an error: %q, %d", b, e)
	}
	l = opened(t, f)
	must(t, l.Put(1, nil))
	for i := range api.MaxFiles - 2 {
		must(t, f.Plant("d", fmt.Sprint(i), nil))
	}
	want(t, "P9.2: Put with too many files", l.Put(2, nil), api.ErrMany)
}

// P9.3: as many bytes as a fold may have, and one more, by pairs and by the frame.
func TestLongFolds(t *testing.T) {
	// The count, and of each pair a length of one byte, sixteen digits, and a length of four.
	const more = 1 + 2*(1+16+4)
	half := make([]byte, api.MaxFile/2)
	for _, c := range []struct {
		size   int
		wanted api.Errno
	}{
		{api.MaxFile - 8, api.OK}, {api.MaxFile - 7, api.ErrFrameLong}, {api.MaxFile, api.ErrFrameLong}, {api.MaxFile + 1, api.ErrCodeLong},
	} {
		f, l := empty(t)
		must(t, l.Put(0, half), l.Put(1, make([]byte, c.size-len(half)-more)))
		steps := f.Steps()
		want(t, fmt.Sprintf("P9.3: Fold of %d bytes", c.size), l.Fold(1), c.wanted)
		if c.wanted != api.OK && f.Steps() != steps {
			t.Errorf("P9.3: Fold of %d bytes: %d steps", c.size, f.Steps()-steps)
		}
		if l := opened(t, f); l.Len() != 2 {
			t.Errorf("P9.3: Fold of %d bytes: %d entries", c.size, l.Len())
		}
	}
}

// P9.5, P9.3, P9.4: wherever the power goes, the steps are those that the chapter's words say, and a log that is opened
// behind the crash has what it had, and perhaps, of a Put, the new entry.
func TestWhereThePowerGoes(t *testing.T) {
	l := []int{0, 1, 2, 3, 5, 7}
	for _, s := range scenes() {
		for _, a := range ops() {
			for _, b := range ops() {
				for fuse := 0; cutOff(t, s, a, b, fuse, nil); fuse++ {
					for _, k := range l {
						cutOff(t, s, a, b, fuse, []int{k, k, 9, 11, k, 30, k})
						cutOff(t, s, a, b, fuse, []int{k, k, k})
					}
				}
			}
		}
	}
}

// cutOff does b behind a with a fuse, and tells whether the power went.
func cutOff(t *testing.T, s scene, a, b op, fuse int, picks []int) bool {
	t.Helper()
	f, p := s.made(t), s.made(t)
	log := opened(t, f)
	plain, _ := plainOpen(p, "d")
	a.do(log)
	a.plain(plain)
	ahead := plain.entries()
	must(t, f.Fuse(fuse), p.Fuse(fuse))
	what := fmt.Sprintf("%s, %s, %s with a fuse of %d, crash %v", s.what, a.what, b.what, fuse, picks)
	e, wanted := b.do(log), b.plain(plain)
	if e != wanted || !seenOf(f).same(seenOf(p)) {
		t.Fatalf("P9.3: %s: %d, not %d\n%v, not\n%v", what, e, wanted, seenOf(f), seenOf(p))
	}
	went := !f.On()
	must(t, f.Crash(picks...), p.Crash(picks...))
	behind := tells(opened(t, f))
	if !b.isPurge && behind != told(b.done(ahead)) && (e == api.OK || behind != told(ahead)) {
		t.Fatalf("P9.5: %s: %s, not %s", what, behind, told(ahead))
	}
	if behind != told(plain.entries()) {
		t.Fatalf("P9.4: %s: %s, not %s", what, behind, told(plain.entries()))
	}
	return went
}

// All's numbers and bytes are those at the call, whatever comes behind it, and however often they are gone over.
func TestAllIsAsItWas(t *testing.T) {
	_, l := empty(t)
	// So many that a list of them may have room for more.
	must(t, l.Put(1, []byte("y")), l.Put(3, []byte("w")), l.Put(6, nil), l.Put(7, nil), l.Put(8, nil))
	all := l.All()
	was := `1="y" 3="w" 6="" 7="" 8="" `
	for i, change := range []func() api.Errno{
		func() api.Errno { return l.Put(0, []byte("x")) },
		func() api.Errno { return l.Put(2, []byte("z")) },
		func() api.Errno { return l.Fold(2) },
		func() api.Errno { return l.Purge(3) },
		func() api.Errno { return l.Purge(9) },
		func() api.Errno { return l.Put(4, nil) },
	} {
		must(t, change())
		if s := toldBy(all); s != was {
			t.Errorf("P9.2: All behind change %d: %s", i, s)
		}
	}
	if s := toldBy(l.All()); s != `4="" ` {
		t.Errorf("P9.2: All: %s", s)
	}
	must(t, l.Put(5, nil))
	for id := range l.All() {
		if id != 4 {
			t.Errorf("P9.2: All goes on to %d", id)
		}
		break
	}
	for range all {
		must(t, l.Purge(9))
	}
	if s := toldBy(all); s != was || l.Len() != 0 {
		t.Errorf("P9.2: All: %s", s)
	}
}

// toldBy answers the numbers and bytes that all yields.
func toldBy(all iter.Seq2[int64, []byte]) string {
	s := ""
	for id, b := range all {
		s += fmt.Sprintf("%d=%q ", id, b)
	}
	return s
}

// A nil log answers ErrNil, nothing, 0, false.
func TestNilLog(t *testing.T) {
	var l *Log
	for _, id := range []int64{-1, 0, 1 << 40, math.MaxInt64, math.MinInt64} {
		want(t, "P9.2: Put", l.Put(id, nil), api.ErrNil)
		want(t, "P9.3: Fold", l.Fold(id), api.ErrNil)
		want(t, "P9.4: Purge", l.Purge(id), api.ErrNil)
		if b, e := l.Get(id); len(b) > 0 || e != api.ErrNil {
			t.Errorf("P9.2: Get: %q, %d", b, e)
		}
	}
	if n, ok := l.Last(); n != 0 || ok || l.Len() != 0 || toldBy(l.All()) != "" {
		t.Errorf("P9.2: Last of nil: %d, %v", n, ok)
	}
}

// A broken log still ends, whatever is asked of it.
func TestBrokenLogsEnd(t *testing.T) {
	for _, s := range scenes() {
		for _, a := range ops() {
			for fuse := range 9 {
				f := s.made(t)
				l := opened(t, f)
				must(t, f.Fuse(fuse))
				a.do(l)
				for _, b := range ops() {
					b.do(l)
					tells(l)
				}
				must(t, f.Crash(1, 2, 3))
				for _, b := range ops() {
					b.do(l)
					tells(l)
				}
			}
		}
	}
}

// R4: what is handed in stays, spare room behind its end too, and what is done with it later counts for nothing.
func TestArgumentsStay(t *testing.T) {
	f, l := empty(t)
	room := []byte("bytes, and what is behind")
	must(t, l.Put(0, room[:5]), l.Put(0, room[:5]), l.Fold(0))
	want(t, "P9.2: Put of more", l.Put(0, room[:6]), api.ErrClash)
	must(t, l.Put(1, room[:5]))
	if string(room) != "bytes, and what is behind" {
		t.Errorf("R4: it became %q", room)
	}
	clear(room)
	for _, l := range []*Log{l, opened(t, f)} {
		if s := tells(l); s != `0="bytes" 1="bytes" ` {
			t.Errorf("R4: the entries became %s", s)
		}
	}
}

// R4: what is told is the caller's.
func TestAnswersAreTheCallers(t *testing.T) {
	f, l := empty(t)
	must(t, l.Put(0, []byte("bytes")), l.Put(1, nil), l.Fold(0), l.Put(2, []byte("more")))
	for _, l := range []*Log{l, opened(t, f)} {
		all := l.All()
		for _, b := range all {
			clear(b[:cap(b)])
			_ = append(b, "behind"...)
		}
		for id := range int64(3) {
			b, _ := l.Get(id)
			clear(b[:cap(b)])
		}
		if s := toldBy(all); s != tells(l) || s != `0="bytes" 1="" 2="more" ` {
			t.Errorf("R4: the entries became %s, %s", s, tells(l))
		}
		must(t, l.Put(2, []byte("more")))
	}
}
