package segment

import (
	"fmt"
	"math"
	"slices"
	"strings"
	"testing"

	"headgate/api"
	"headgate/simfs"
)

// must holds that the calls that answered l were OK.
func must(t *testing.T, l ...api.Errno) {
	t.Helper()
	for i, e := range l {
		if e != api.OK {
			t.Fatalf("call %d of these: %d", i, e)
		}
	}
}

// want holds what a call answered against an error.
func want(t *testing.T, what string, e, wanted api.Errno) {
	t.Helper()
	if e != wanted {
		t.Errorf("%s: %d, not %d", what, e, wanted)
	}
}

// opened answers the log of the directory d.
func opened(t *testing.T, f *simfs.FS, size int) *Log {
	t.Helper()
	l, e := Open(f, "d", size)
	if l == nil || e != api.OK {
		t.Fatalf("P10.1: Open: %v, %d", l, e)
	}
	return l
}

// filled answers a file system, and a log in it that has records, each of which last.
func filled(t *testing.T, size int, records ...string) (*simfs.FS, *Log) {
	t.Helper()
	f := scenes()[0].made(t)
	l := opened(t, f, size)
	for i, r := range records {
		appends(t, l, r, int64(i))
	}
	must(t, l.Sync())
	return f, l
}

// appends holds that b is appended, with this number.
func appends(t *testing.T, l *Log, b string, wanted int64) {
	t.Helper()
	if n, e := l.Append([]byte(b)); n != wanted || e != api.OK {
		t.Fatalf("P10.2: Append of %d bytes: %d, %d, not %d", len(b), n, e, wanted)
	}
}

// fails holds that Append of b answers an error, and no number.
func fails(t *testing.T, l *Log, b []byte, wanted api.Errno) {
	t.Helper()
	if n, e := l.Append(b); n != 0 || e != wanted {
		t.Errorf("P10.2: Append of %d bytes: %d, %d, not %d", len(b), n, e, wanted)
	}
}

// reads holds the records from from on, ahead of to, against wanted.
func reads(t *testing.T, l *Log, from, to int64, wanted ...string) {
	t.Helper()
	if got, e := read(l, from, to); !slices.Equal(got, wanted) || e != api.OK {
		t.Errorf("P10.4: Read(%d, %d): %q, %d, not %q", from, to, got, e, wanted)
	}
}

// tears holds that Read answers an error, and no records.
func tears(t *testing.T, l *Log, from, to int64, wanted api.Errno) {
	t.Helper()
	if got, e := l.Read(from, to); len(got) > 0 || e != wanted {
		t.Errorf("P10.4: Read(%d, %d): %q, %d, not %d", from, to, got, e, wanted)
	}
}

// counts holds how many records there are, how many last, and how many segments there are.
func counts(t *testing.T, l *Log, end, durable int64, segments int) {
	t.Helper()
	if l.End() != end || l.Durable() != durable || l.Segments() != segments {
		t.Errorf("P10.3: End %d, Durable %d, Segments %d, not %d, %d, %d", l.End(), l.Durable(), l.Segments(), end, durable, segments)
	}
}

// read answers some records as texts.
func read(l *Log, from, to int64) ([]string, api.Errno) {
	var texts []string
	records, e := l.Read(from, to)
	for _, r := range records {
		texts = append(texts, string(r))
	}
	return texts, e
}

// tells answers what is wrong with all that l tells of itself, if wanted are its records; nothing, if all is right.
func tells(l *Log, wanted []string, durable int64, segments int) string {
	end := int64(len(wanted))
	if l.End() != end || l.Durable() != durable || l.Segments() != segments {
		return fmt.Sprintf("End %d, Durable %d, Segments %d, not %d, %d, %d", l.End(), l.Durable(), l.Segments(), end, durable, segments)
	}
	for from := int64(-1); from <= end+1; from++ {
		for to := int64(-1); to <= end+1; to++ {
			got, e := read(l, from, to)
			if from < 0 || from > to || to > end {
				if len(got) > 0 || e != api.ErrRange {
					return fmt.Sprintf("Read(%d, %d): %q, %d", from, to, got, e)
				}
				continue
			}
			if !slices.Equal(got, wanted[from:to]) || e != api.OK {
				return fmt.Sprintf("Read(%d, %d): %q, %d, not %q", from, to, got, e, wanted[from:to])
			}
		}
	}
	return ""
}

// tellsPlain answers what tells does, of what p says.
func tellsPlain(l *Log, p *plainLog) string {
	return tells(l, p.records(), p.durable, len(p.segments()))
}

// begins tells whether l begins with the records ahead.
func begins(l, ahead []string) bool {
	return len(ahead) <= len(l) && slices.Equal(l[:len(ahead)], ahead)
}

// The chapter's examples.
func TestExamples(t *testing.T) {
	f, l := filled(t, 10, "aa", "bb", "cc")
	counts(t, l, 3, 3, 3)
	if names, _ := f.List("d"); !slices.Equal(names, []string{plainName(0), plainName(1), plainName(2)}) {
		t.Errorf("P10.2: %q", names)
	}
	f, l = filled(t, 100, "aa", "bb", "cc")
	counts(t, l, 3, 3, 1)
	must(t, f.Plant("d", plainName(0), plainFrames("aa", "bb", "cc")[:29]))
	l = opened(t, f, 100)
	counts(t, l, 2, 2, 1)
	reads(t, l, 0, 2, "aa", "bb")
	if b, _ := f.Read("d", plainName(0)); string(b) != string(plainFrames("aa", "bb")) {
		t.Errorf("P10.1: %q", b)
	}
}

// An op is a call that may change a log, and what the chapter's words make of it.
type op struct {
	what  string
	do    func(*Log) (int64, api.Errno)
	plain func(*plainLog) (int64, api.Errno)
	// What an Append appends.
	record string
	isSync bool
}

func appendOf(b string) op {
	return op{
		what:   fmt.Sprintf("Append of %d bytes", len(b)),
		do:     func(l *Log) (int64, api.Errno) { return l.Append([]byte(b)) },
		plain:  func(l *plainLog) (int64, api.Errno) { return l.Append(b) },
		record: b,
	}
}

func syncOf() op {
	return op{
		what:   "Sync",
		do:     func(l *Log) (int64, api.Errno) { return 0, l.Sync() },
		plain:  func(l *plainLog) (int64, api.Errno) { return 0, l.Sync() },
		isSync: true,
	}
}

// ops answers calls of lengths that fill a segment, don't, and are too great.
func ops() []op {
	return []op{appendOf(""), appendOf("y"), appendOf("twelve bytes"), appendOf(strings.Repeat("z", 1025)), syncOf()}
}

// rows yields all rows of n of the calls.
func rows(n int) [][]op {
	l := [][]op{nil}
	for range n {
		var longer [][]op
		for _, row := range l {
			for _, o := range ops() {
				longer = append(longer, append(slices.Clone(row), o))
			}
		}
		l = longer
	}
	return l
}

// sizes answers sizes at which a segment of these lengths is full, or just not.
func sizes() []int { return []int{1, 8, 9, 17, 20, 21, 1 << 24} }

// agree does a row on a log and a plain one, and holds all that is to be seen of both against each other behind each.
func agree(t *testing.T, s scene, size int, row []op) {
	t.Helper()
	f, p := s.made(t), s.made(t)
	log, e := Open(f, "d", size)
	plain, wanted := plainOpen(p, size)
	what := fmt.Sprintf("%s, size %d", s.what, size)
	must(t, e, wanted)
	for i := 0; ; i++ {
		if !seenOf(f).same(seenOf(p)) {
			t.Fatalf("P10.1, P10.2: %s: %v, not %v", what, seenOf(f), seenOf(p))
		}
		if wrong := tellsPlain(log, plain); wrong != "" {
			t.Fatalf("P10.3, P10.4: %s: %s", what, wrong)
		}
		if i == len(row) {
			break
		}
		what += ", " + row[i].what
		n, e := row[i].do(log)
		if wanted, we := row[i].plain(plain); n != wanted || e != we {
			t.Fatalf("P10.2: %s: %d, %d, not %d, %d", what, n, e, wanted, we)
		}
	}
	again, e := Open(f, "d", size)
	must(t, e)
	if wrong := tells(again, plain.records(), int64(len(plain.records())), len(plain.segments())); wrong != "" {
		t.Fatalf("P10.1: %s, opened anew: %s", what, wrong)
	}
}

// P10.1 to P10.4: calls in a row, each behind each, as the chapter's words say.
func TestCallsInARow(t *testing.T) {
	for _, s := range scenes() {
		for _, size := range sizes() {
			for _, row := range rows(3) {
				agree(t, s, size, row)
			}
		}
	}
	for _, size := range sizes() {
		for _, row := range rows(4) {
			agree(t, scenes()[0], size, row)
		}
	}
}

// P10.1 to P10.4: many calls, opened anew now and then, with another size, behind crashes and without.
func TestManyCalls(t *testing.T) {
	x := uint32(1)
	next := func(n int) int {
		x = x*1664525 + 1013904223
		return int(x>>16) % n
	}
	f, p := scenes()[0].made(t), scenes()[0].made(t)
	log := opened(t, f, 40)
	plain, _ := plainOpen(p, 40)
	for i := range 600 {
		o := appendOf(strings.Repeat("b", next(30)))
		switch next(25) {
		case 0, 1:
			o = syncOf()
		case 2:
			picks := []int{next(9), next(90), next(90), next(90)}
			must(t, f.Crash(picks...), p.Crash(picks...))
			fallthrough
		case 3:
			size := 1 + next(100)
			log = opened(t, f, size)
			plain, _ = plainOpen(p, size)
		}
		n, e := o.do(log)
		if wanted, we := o.plain(plain); n != wanted || e != we {
			t.Fatalf("P10.2: call %d: %d, %d, not %d, %d", i, n, e, wanted, we)
		}
		from := int64(next(int(log.End()) + 1))
		to := min(from+int64(next(20)), log.End())
		got, e := read(log, from, to)
		if !slices.Equal(got, plain.records()[from:to]) || e != api.OK {
			t.Fatalf("P10.4: call %d: Read(%d, %d): %q, %d", i, from, to, got, e)
		}
		if !seenOf(f).same(seenOf(p)) || log.Durable() != plain.durable || log.Segments() != len(plain.segments()) {
			t.Fatalf("P10.3: call %d: Durable %d, Segments %d", i, log.Durable(), log.Segments())
		}
	}
	if log.Segments() < 50 {
		t.Errorf("P10.4: %d segments are too few to tell", log.Segments())
	}
}

// P10.1: the errors of Open in their order.
func TestErrorsOfOpen(t *testing.T) {
	f := scenes()[3].made(t)
	many := scenes()[0].made(t)
	for i := range api.MaxDirs {
		must(t, many.Mkdir(fmt.Sprint("d", i)))
	}
	off := scenes()[3].made(t)
	must(t, off.Fuse(0))
	want(t, "a step without power", off.Mkdir("e"), api.ErrDown)
	for _, c := range []struct {
		what   string
		f      *simfs.FS
		dir    string
		size   int
		wanted api.Errno
	}{
		{"size 0", f, "d", 0, api.ErrArg},
		{"size -1", f, "d", -1, api.ErrArg},
		{"the least size", f, "d", math.MinInt, api.ErrArg},
		{"size 2^24 + 1", f, "d", 1<<24 + 1, api.ErrArg},
		{"the greatest size", f, "d", math.MaxInt, api.ErrArg},
		{"size 0, no file system", nil, "", 0, api.ErrArg},
		{"size 0, no power", off, "D", 0, api.ErrArg},
		{"no file system", nil, "d", 1, api.ErrNil},
		{"no file system, no name", nil, "", 1, api.ErrNil},
		{"no power", off, "d", 1, api.ErrDown},
		{"no power, no name", off, "D", 1, api.ErrDown},
		{"no name", f, "", 1, api.ErrName},
		{"great letters", f, "D", 1, api.ErrName},
		{"long", f, strings.Repeat("d", 33), 1, api.ErrName},
		{"too many", many, "d", 1, api.ErrMany},
	} {
		if l, e := Open(c.f, c.dir, c.size); l != nil || e != c.wanted {
			t.Errorf("P10.1: Open, %s: %v, %d, not %d", c.what, l, e, c.wanted)
		}
	}
	for _, size := range []int{1, 1 << 24} {
		counts(t, opened(t, f, size), 5, 5, 3)
	}
}

// P10.1, P10.5: wherever the power goes within Open, the steps are those that the chapter's words say; a log that is
// opened behind the crash has the records that it would have had, and none behind them but those that were there.
func TestPowerGoesWithinOpen(t *testing.T) {
	for _, s := range scenes() {
		was := &plainLog{f: s.made(t)}
		must(t, was.ready())
		plain, e := plainOpen(s.made(t), 20)
		must(t, e)
		least, most := plain.records(), was.records()
		for fuse := 0; ; fuse++ {
			went := false
			for _, k := range []int{0, 1, 2, 3, 9, 30} {
				f, p := s.made(t), s.made(t)
				must(t, f.Fuse(fuse), p.Fuse(fuse))
				l, e := Open(f, "d", 20)
				_, we := plainOpen(p, 20)
				went = e != api.OK
				must(t, f.Crash(k, k, k, k), p.Crash(k, k, k, k))
				if e != we || went != (l == nil) || !seenOf(f).same(seenOf(p)) {
					t.Fatalf("P10.1: %s, fuse %d: %d, not %d: %v, not %v", s.what, fuse, e, we, seenOf(f), seenOf(p))
				}
				plain, e := plainOpen(p, 20)
				must(t, e)
				if wrong := tellsPlain(opened(t, f, 20), plain); wrong != "" {
					t.Fatalf("P10.1: %s, fuse %d: %s", s.what, fuse, wrong)
				}
				all := plain.records()
				if !begins(all, least) || len(all) > len(least) && !begins(most, all) {
					t.Fatalf("P10.5: %s, fuse %d: %q, not %q", s.what, fuse, all, least)
				}
			}
			if !went {
				break
			}
		}
	}
}

// P10.1: of a segment that is to be laid anew there may be no room; then all stays till there is.
func TestOpenWithoutRoom(t *testing.T) {
	for _, s := range scenes() {
		f, p := s.made(t), s.made(t)
		must(t, f.Room(0), p.Room(0))
		l, e := Open(f, "d", 20)
		_, wanted := plainOpen(p, 20)
		if e != wanted || (e == api.OK) != (l != nil) || !seenOf(f).same(seenOf(p)) {
			t.Errorf("P10.1: %s, without room: %d, not %d", s.what, e, wanted)
		}
		must(t, f.Room(1<<20), p.Room(1<<20))
		plain, e := plainOpen(p, 20)
		must(t, e)
		if wrong := tellsPlain(opened(t, f, 20), plain); wrong != "" {
			t.Errorf("P10.1: %s, with room again: %s", s.what, wrong)
		}
	}
	f := scene{"", but(0, plainFrames("a", "b")[:17])}.made(t)
	must(t, f.Room(0))
	if l, e := Open(f, "d", 20); l != nil || e != api.ErrFull {
		t.Errorf("P10.1: Open without room: %v, %d", l, e)
	}
	must(t, f.Room(1<<20), f.Remove("d", "tmp."+plainName(0)))
	for i := range api.MaxFiles - 3 {
		must(t, f.Plant("d", fmt.Sprint(i), nil))
	}
	if l, e := Open(f, "d", 20); l != nil || e != api.ErrMany {
		t.Errorf("P10.1: Open with too many files: %v, %d", l, e)
	}
}

// P10.1: of a segment that is cut off anywhere the whole records stay, and none of those behind.
func TestCutOffSegments(t *testing.T) {
	records := []string{"a", "", strings.Repeat("c", 1024), "dd"}
	b := plainFrames(records...)
	for _, more := range []map[int][]byte{{}, {4: plainFrames("e")}, {4: plainFrames("e"), 5: plainFrames("f", "g")}} {
		for length := range len(b) + 1 {
			more[0] = b[:length]
			f := scene{"", segmentsOf(more)}.made(t)
			l := opened(t, f, 20)
			n, segments := len(plainGood(b[:length])), 1
			if length == len(b) {
				segments = len(more)
			} else if got, _ := f.Read("d", plainName(0)); string(got) != string(plainFrames(records[:n]...)) {
				t.Fatalf("P10.1: cut off behind %d bytes: %q", length, got)
			}
			if l.Segments() != segments || segments == 1 && l.End() != int64(n) {
				t.Fatalf("P10.1: cut off behind %d bytes: %d segments, %d records", length, l.Segments(), l.End())
			}
			reads(t, l, 0, int64(n), records[:n]...)
		}
	}
}

// P10.1, P10.4: each bit of each segment: a log that is open tells that it is torn, one that is opened has what is ahead.
func TestTurnedBits(t *testing.T) {
	records := plainGood(slices.Concat(whole()[0], whole()[2], whole()[4]))
	for n, b := range whole() {
		for at := range 8 * len(b) {
			f := scenes()[3].made(t)
			l := opened(t, f, 20)
			must(t, f.Spoil("d", plainName(n), at/8, 1<<(at%8)))
			behind := min(n+2, 5)
			for i := range 5 {
				if i < n || i >= behind {
					reads(t, l, int64(i), int64(i+1), records[i])
					continue
				}
				tears(t, l, int64(i), int64(i+1), api.ErrTorn)
			}
			tears(t, l, 0, 5, api.ErrTorn)
			reads(t, l, 0, int64(n), records[:n]...)
			reads(t, l, int64(behind), 5, records[behind:]...)
			spoilt, _ := f.Read("d", plainName(n))
			left := n + len(plainGood(spoilt))
			l = opened(t, f, 20)
			counts(t, l, int64(left), int64(left), n/2+1)
			reads(t, l, 0, int64(left), records[:left]...)
		}
	}
}

// P10.1, P10.4: a frame is good up to MaxRecord bytes.
func TestGreatFrames(t *testing.T) {
	most, more := strings.Repeat("m", 1024), strings.Repeat("m", 1025)
	for _, c := range []struct {
		b    []byte
		good []string
	}{
		{plainFrames(most), []string{most}},
		{plainFrames(most, "b", most), []string{most, "b", most}},
		{plainFrames(more), nil},
		{plainFrames("a", more), []string{"a"}},
		{plainFrames("a", more, "b"), []string{"a"}},
		{plainFrames(strings.Repeat("x", 1<<16), "b"), nil},
	} {
		f := scene{"", segmentsOf(map[int][]byte{0: c.b})}.made(t)
		l := opened(t, f, 20)
		n := int64(len(c.good))
		counts(t, l, n, n, 1)
		reads(t, l, 0, n, c.good...)
		if b, _ := f.Read("d", plainName(0)); string(b) != string(plainFrames(c.good...)) {
			t.Errorf("P10.1: of %d bytes %d stay", len(c.b), len(b))
		}
	}
	f, l := filled(t, 1<<24, "a", "b", "c")
	must(t, f.Plant("d", plainName(0), plainFrames("a", "b", more, "c")))
	tears(t, l, 0, 1, api.ErrTorn)
}

// P10.4: it is the good frames with which a segment begins that count: there may be more of them, but no fewer.
func TestReadOfOtherFiles(t *testing.T) {
	f, l := filled(t, 20, "aa", "bb", "cc", "dd", "ee")
	must(t, f.Plant("d", plainName(2), plainFrames("x", "yy", "z")))
	reads(t, l, 0, 5, "aa", "bb", "x", "yy", "ee")
	must(t, f.Plant("d", plainName(2), slices.Concat(plainFrames("x", "yy"), []byte("junk"))))
	reads(t, l, 1, 4, "bb", "x", "yy")
	must(t, f.Plant("d", plainName(2), plainFrames("x")))
	tears(t, l, 2, 3, api.ErrTorn)
	reads(t, l, 0, 2, "aa", "bb")
	reads(t, l, 2, 2)
	must(t, f.Plant("d", plainName(4), nil))
	tears(t, l, 4, 5, api.ErrTorn)
	tears(t, l, 0, 5, api.ErrTorn)
	must(t, f.Remove("d", plainName(2)))
	tears(t, l, 1, 3, api.ErrNoFile)
	tears(t, l, 3, 5, api.ErrNoFile)
	reads(t, l, 0, 2, "aa", "bb")
}

// P10.4: ranges at their ends; what has no record needs no file, nor power.
func TestRangesOfRead(t *testing.T) {
	f, l := filled(t, 20, "aa", "bb", "cc")
	ends := []int64{math.MinInt64, math.MinInt64 + 1, -1, 4, math.MaxInt64 - 1, math.MaxInt64}
	for _, from := range append(ends, 0, 1, 3) {
		for _, to := range ends {
			tears(t, l, from, to, api.ErrRange)
			tears(t, l, to, from, api.ErrRange)
		}
	}
	tears(t, l, 1, 0, api.ErrRange)
	tears(t, l, 3, 2, api.ErrRange)
	must(t, f.Fuse(0))
	want(t, "a step without power", f.Mkdir("e"), api.ErrDown)
	for at := range int64(4) {
		reads(t, l, at, at)
	}
	tears(t, l, 0, 1, api.ErrDown)
	tears(t, l, 0, 4, api.ErrRange)
	_, l = filled(t, 20)
	reads(t, l, 0, 0)
	tears(t, l, 0, 1, api.ErrRange)
}

// P10.2: a record that is too big comes ahead of all: nothing is done.
func TestBigRecords(t *testing.T) {
	f, l := filled(t, 1)
	steps := f.Steps()
	for _, size := range []int{1025, 1026, 1 << 16, 1<<24 - 7} {
		fails(t, l, make([]byte, size), api.ErrBig)
	}
	counts(t, l, 0, 0, 0)
	appends(t, l, strings.Repeat("m", 1024), 0)
	fails(t, l, make([]byte, 1025), api.ErrBig)
	counts(t, l, 1, 0, 1)
	// Create, SyncDir, Append.
	if f.Steps() != steps+3 {
		t.Errorf("P10.2: %d steps", f.Steps()-steps)
	}
	must(t, f.Fuse(0))
	fails(t, l, make([]byte, 1025), api.ErrBig)
	fails(t, l, nil, api.ErrDown)
	fails(t, l, make([]byte, 1025), api.ErrBig)
}

// P10.2: behind ErrFull the log goes on, with the segment that was made.
func TestWithoutRoom(t *testing.T) {
	f, l := filled(t, 20)
	must(t, f.Room(27))
	fails(t, l, make([]byte, 20), api.ErrFull)
	counts(t, l, 0, 0, 1)
	appends(t, l, "aa", 0)
	appends(t, l, "b", 1)
	counts(t, l, 2, 0, 1)
	steps := f.Steps()
	fails(t, l, []byte("c"), api.ErrFull)
	counts(t, l, 2, 0, 1)
	// The segment isn't full.
	if f.Steps() != steps {
		t.Errorf("P10.2: %d steps", f.Steps()-steps)
	}
	appends(t, l, "", 2)
	fails(t, l, []byte(""), api.ErrFull)
	counts(t, l, 3, 3, 2)
	steps = f.Steps()
	for range 3 {
		fails(t, l, []byte("d"), api.ErrFull)
	}
	if f.Steps() != steps {
		t.Errorf("P10.2: %d steps", f.Steps()-steps)
	}
	must(t, l.Sync(), f.Room(100))
	reads(t, l, 0, 3, "aa", "b", "")
	appends(t, l, "dd", 3)
	counts(t, l, 4, 3, 2)
	counts(t, opened(t, f, 20), 4, 4, 2)
}

// P10.2: the other errors of the file system.
func TestErrorsOfAppend(t *testing.T) {
	f, l := filled(t, 1, "a")
	must(t, f.Plant("d", plainName(1), nil))
	fails(t, l, []byte("b"), api.ErrThere)

	f, l = filled(t, 1, "a")
	for i := range api.MaxFiles - 1 {
		must(t, f.Plant("d", fmt.Sprint(i), nil))
	}
	fails(t, l, []byte("b"), api.ErrMany)

	// As many bytes as a segment may have without being full, and a record with which it is too long.
	f, l = filled(t, 1<<24, "a")
	b := slices.Concat(plainFrames("a"), slices.Repeat(plainFrames(strings.Repeat("m", 1024)), 16256))
	must(t, f.Plant("d", plainName(0), b))
	l = opened(t, f, 1<<24)
	counts(t, l, 16257, 16257, 1)
	fails(t, l, make([]byte, 1<<24-len(b)-7), api.ErrLong)
	l = opened(t, f, 1<<24)
	appends(t, l, string(make([]byte, 1<<24-len(b)-8)), 16257)
	appends(t, l, "next", 16258)
	counts(t, l, 16259, 16258, 2)

	f, l = filled(t, 20, "a")
	must(t, f.Remove("d", plainName(0)))
	want(t, "P10.2: Sync of a file that went", l.Sync(), api.ErrNoFile)
}

// P10.3: what lasts: at Open all, behind Sync all, and when a segment is made all ahead of it.
func TestDurable(t *testing.T) {
	f, l := filled(t, 20)
	must(t, l.Sync())
	counts(t, l, 0, 0, 0)
	appends(t, l, "aa", 0)
	counts(t, l, 1, 0, 1)
	must(t, l.Sync())
	counts(t, l, 1, 1, 1)
	appends(t, l, "bb", 1)
	counts(t, l, 2, 1, 1)
	appends(t, l, "cc", 2)
	counts(t, l, 3, 2, 2)
	counts(t, opened(t, f, 20), 3, 3, 2)
	must(t, f.Crash())
	counts(t, opened(t, f, 20), 3, 3, 2)
	appends(t, l, "dd", 3)
	must(t, f.Crash(0, 9))
	l = opened(t, f, 20)
	counts(t, l, 3, 3, 2)
	reads(t, l, 0, 3, "aa", "bb", "cc")
}

// manyPicks answers what crashes may keep.
func manyPicks() [][]int {
	l := [][]int{nil}
	for _, j := range []int{0, 1, 8, 9, 20} {
		l = append(l, []int{0, j, j, j, j}, []int{1, j, j, j, j}, []int{2, 0, 0, j, j})
	}
	return l
}

// P10.5, P10.2: wherever the power goes, the steps are those that the chapter's words say, and a log that is opened
// behind the crash has what was durable, and the first ones of what is behind that.
func TestWhereThePowerGoes(t *testing.T) {
	for i, s := range []scene{scenes()[0], scenes()[3], scenes()[9], scenes()[17]} {
		// Of scenes with files two calls are as telling as three are of none.
		calls := 3 - min(i, 1)
		for _, size := range []int{1, 9, 20} {
			for _, row := range rows(calls) {
				for fuse := 0; ; fuse++ {
					went := false
					for _, picks := range manyPicks() {
						went = cutOff(t, s, size, row, fuse, picks)
					}
					if !went {
						break
					}
				}
			}
		}
	}
}

// cutOff does a row with a fuse till the power goes, and tells whether it went.
func cutOff(t *testing.T, s scene, size int, row []op, fuse int, picks []int) bool {
	t.Helper()
	f, p := s.made(t), s.made(t)
	log := opened(t, f, size)
	plain, e := plainOpen(p, size)
	all := plain.records()
	must(t, e, f.Fuse(fuse), p.Fuse(fuse))
	durable, went := int64(len(all)), false
	for _, o := range row {
		n, e := o.do(log)
		wanted, we := o.plain(plain)
		if n != wanted || e != we {
			t.Fatalf("P10.2: %s, fuse %d, %s: %d, %d, not %d, %d", s.what, fuse, o.what, n, e, wanted, we)
		}
		if !o.isSync && e != api.ErrBig {
			all = append(all, o.record)
		}
		if went = e == api.ErrDown; went {
			break
		}
		durable = log.Durable()
	}
	must(t, f.Crash(picks...), p.Crash(picks...))
	if !seenOf(f).same(seenOf(p)) {
		t.Fatalf("P10.2: %s, fuse %d: %v, not %v", s.what, fuse, seenOf(f), seenOf(p))
	}
	left := plain.records()
	log = opened(t, f, size)
	if int64(len(left)) < durable || !begins(all, left) {
		t.Fatalf("P10.5: %s, fuse %d: %q of %q, of which %d are durable", s.what, fuse, left, all, durable)
	}
	if got, e := read(log, 0, log.End()); !slices.Equal(got, left) || e != api.OK {
		t.Fatalf("P10.5: %s, fuse %d: %q, %d, not %q", s.what, fuse, got, e, left)
	}
	return went
}

// A nil log answers ErrNil, 0.
func TestNilLog(t *testing.T) {
	var l *Log
	for _, b := range [][]byte{nil, []byte("a"), make([]byte, 1025)} {
		fails(t, l, b, api.ErrNil)
	}
	want(t, "P10.2: Sync of nil", l.Sync(), api.ErrNil)
	for _, at := range []int64{math.MinInt64, -1, 0, 1, math.MaxInt64} {
		tears(t, l, 0, at, api.ErrNil)
		tears(t, l, at, 0, api.ErrNil)
	}
	counts(t, l, 0, 0, 0)
}

// A broken log still ends, whatever is asked of it.
func TestBrokenLogsEnd(t *testing.T) {
	for _, s := range scenes() {
		for _, row := range rows(2) {
			for fuse := range 9 {
				f := s.made(t)
				l := opened(t, f, 9)
				must(t, f.Fuse(fuse))
				for range 3 {
					for _, o := range slices.Concat(row, ops()) {
						o.do(l)
						tells(l, nil, 0, 0)
						l.Read(0, l.End())
					}
					must(t, f.Crash(1, 2, 3))
				}
				for _, name := range (&plainLog{f: f}).segments() {
					must(t, f.Remove("d", name))
				}
				l.Append(nil)
				l.Read(0, l.End())
			}
		}
	}
}

// R4: what is handed in stays, spare room behind its end too, and what is done with it later counts for nothing.
func TestArgumentsStay(t *testing.T) {
	room := []byte("bytes, and what is behind")
	f, l := filled(t, 20)
	for i := range int64(3) {
		if n, e := l.Append(room[:5]); n != i || e != api.OK {
			t.Fatalf("P10.2: Append: %d, %d", n, e)
		}
	}
	if string(room) != "bytes, and what is behind" {
		t.Errorf("R4: it became %q", room)
	}
	clear(room)
	for _, l := range []*Log{l, opened(t, f, 20)} {
		reads(t, l, 0, 3, "bytes", "bytes", "bytes")
	}
}

// R4: what is told is the caller's, and no record has memory of another one.
func TestAnswersAreTheCallers(t *testing.T) {
	wanted := []string{"aa", "", "cc", "dd", "", ""}
	_, l := filled(t, 30, wanted...)
	for i := range wanted {
		records, e := l.Read(0, int64(len(wanted)))
		must(t, e)
		b := records[i]
		clear(b[:cap(b)])
		_ = append(b, "behind, and far behind"...)
		for k, r := range records {
			if k != i && string(r) != wanted[k] {
				t.Errorf("R4: with the record %d the record %d became %q", i, k, r)
			}
		}
		_ = append(records[:1], records...)
		reads(t, l, 0, int64(len(wanted)), wanted...)
	}
}
