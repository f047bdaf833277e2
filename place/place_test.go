package place

import (
	"bytes"
	"fmt"
	"math"
	"slices"
	"strings"
	"testing"

	"headgate/api"
	"headgate/simfs"
)

func roomy(t *testing.T, room int) *simfs.FS {
	t.Helper()
	f, e := simfs.New(room)
	if f == nil || e != api.OK {
		t.Fatalf("New(%d): %v, %d", room, f, e)
	}
	return f
}

// with answers a file system with much room and a directory d.
func with(t *testing.T) *simfs.FS {
	t.Helper()
	f := roomy(t, 1<<30)
	must(t, f.Mkdir("d"))
	return f
}

// must holds that the calls that answered l were OK.
func must(t *testing.T, l ...api.Errno) {
	t.Helper()
	for i, e := range l {
		if e != api.OK {
			t.Fatalf("call %d of these: %d", i, e)
		}
	}
}

// want holds what a call answered against an error.
func want(t *testing.T, what string, e, wanted api.Errno) {
	t.Helper()
	if e != wanted {
		t.Errorf("%s: %d, not %d", what, e, wanted)
	}
}

// filled does Create of a file, and Append of s to it.
func filled(t *testing.T, f *simfs.FS, dir, name, s string) {
	t.Helper()
	must(t, f.Create(dir, name), f.Append(dir, name, []byte(s)))
}

// gets holds what Get tells of d's file name against s.
func gets(t *testing.T, f *simfs.FS, name, s string) {
	t.Helper()
	if b, e := Get(f, "d", name); string(b) != s || e != api.OK {
		t.Errorf("P7.2: Get(%q): %q, %d, not %q", name, b, e, s)
	}
}

// getsNone holds that Get of d's file name answers an error, and nothing else.
func getsNone(t *testing.T, f *simfs.FS, name string, wanted api.Errno) {
	t.Helper()
	if b, e := Get(f, "d", name); len(b) != 0 || e != wanted {
		t.Errorf("P7.2: Get(%q): %q, %d, not %d", name, b, e, wanted)
	}
}

// lists holds d's names against names.
func lists(t *testing.T, f *simfs.FS, names ...string) {
	t.Helper()
	if l, e := f.List("d"); !slices.Equal(l, names) || e != api.OK {
		t.Errorf("List: %q, %d, not %q", l, e, names)
	}
}

// cleans holds what Clean of d answers.
func cleans(t *testing.T, f *simfs.FS, n int, wanted api.Errno) {
	t.Helper()
	if m, e := Clean(f, "d"); m != n || e != wanted {
		t.Errorf("P7.3: Clean: %d, %d, not %d, %d", m, e, n, wanted)
	}
}

// readies holds what Ready of dir answers.
func readies(t *testing.T, f *simfs.FS, dir string, wanted api.Errno, names ...string) {
	t.Helper()
	if l, e := Ready(f, dir); !slices.Equal(l, names) || e != wanted {
		t.Errorf("P7.3: Ready(%q): %q, %d, not %q, %d", dir, l, e, names, wanted)
	}
}

// without answers a file system as s says, without power.
func without(t *testing.T, s scene) *simfs.FS {
	t.Helper()
	f := s.made(t)
	limits{fuse: -1, room: -1, off: true}.on(t, f)
	return f
}

// The chapter's examples.
func TestExamples(t *testing.T) {
	if s := Hex(255); s != "00000000000000ff" {
		t.Errorf("P7.4: Hex(255): %s", s)
	}
	f := roomy(t, 0)
	must(t, f.Mkdir("d"))
	want(t, "P7.1: Put without room", Put(f, "d", "a", []byte("x")), api.ErrFull)
	lists(t, f, "tmp.a")
	cleans(t, f, 1, api.OK)
	lists(t, f)
}

// P7.1: the steps, one more each time, as they are left behind a crash that keeps all.
func TestStepsOfRaw(t *testing.T) {
	for _, c := range []struct {
		ahead string
		left  []string
	}{
		{"", []string{"", "tmp.a=", "tmp.a=xy", "tmp.a=xy", "a=xy", "a=xy"}},
		{"begun", []string{"tmp.a=begun", "", "tmp.a=", "tmp.a=xy", "tmp.a=xy", "a=xy", "a=xy"}},
	} {
		for n, left := range c.left {
			f := with(t)
			if c.ahead != "" {
				must(t, f.Plant("d", "tmp.a", []byte(c.ahead)))
			}
			must(t, f.Fuse(n))
			wanted := api.ErrDown
			if n == len(c.left)-1 {
				wanted = api.OK
			}
			want(t, fmt.Sprintf("P7.1: Raw with a fuse of %d", n), Raw(f, "d", "a", []byte("xy")), wanted)
			if f.Steps() != 1+n {
				t.Errorf("P7.1: Raw with a fuse of %d: %d steps", n, f.Steps()-1)
			}
			// 11 keeps all of one, two and three operations.
			must(t, f.Crash(11, 2))
			got := ""
			for name, b := range seenOf(f).files {
				got += strings.TrimPrefix(name, "d/") + "=" + b
			}
			if got != left {
				t.Errorf("P7.1: Raw with a fuse of %d leaves %s, not %s", n, got, left)
			}
		}
	}
}

// P7.1: what is laid lasts, its bytes and its name.
func TestLaidFilesLast(t *testing.T) {
	f := with(t)
	must(t, Raw(f, "d", "raw", []byte("xy")), f.Crash())
	must(t, Put(f, "d", "put", []byte("xy")), f.Crash())
	lists(t, f, "put", "raw")
	for name, s := range map[string]string{"raw": "xy", "put": string(plainFrame([]byte("xy")))} {
		if b, e := f.Read("d", name); string(b) != s || e != api.OK {
			t.Errorf("P7.1: %s: %q, %d, not %q", name, b, e, s)
		}
	}
	must(t, Put(f, "d", "raw", nil), Raw(f, "d", "put", nil), f.Crash())
	gets(t, f, "raw", "")
	getsNone(t, f, "put", api.ErrTorn)
}

// names answers names that are names, and such as aren't.
func names() []string {
	return []string{
		"a", "z9.", ".", "..", "", "tmp.", "tmp.a", "tmp", "0", "A", "a b", "a/b", "é", "a\x00", "\xff", "-", "_",
		strings.Repeat("n", 27), strings.Repeat("n", 28), strings.Repeat("n", 29), strings.Repeat("n", 32),
		strings.Repeat("N", 28), strings.Repeat("N", 29), strings.Repeat("n", 33), strings.Repeat("n", 1000),
	}
}

// P7.1: Raw and Put as the chapter's words say, from each scene, with each fuse and each room, behind each crash.
func TestRawAndPut(t *testing.T) {
	for _, b := range []string{"", "x", "longer than"} {
		agree(t, fmt.Sprintf("P7.1: Raw(%q)", b),
			func(f *simfs.FS) string { return fmt.Sprint(Raw(f, "d", "a", []byte(b))) },
			func(f *simfs.FS) string { return fmt.Sprint(plainRaw(f, "d", "a", []byte(b))) })
		agree(t, fmt.Sprintf("P7.1: Put(%q)", b),
			func(f *simfs.FS) string { return fmt.Sprint(Put(f, "d", "a", []byte(b))) },
			func(f *simfs.FS) string { return fmt.Sprint(plainPut(f, "d", "a", []byte(b))) })
	}
}

// P7.1: all names, of directories and of files.
func TestNamesOfRawAndPut(t *testing.T) {
	for _, s := range scenes() {
		for _, dir := range append(names(), "d", "c", "tmp.d") {
			for _, name := range names() {
				f, p := s.made(t), s.made(t)
				for range 2 {
					what := fmt.Sprintf("P7.1: %s, (%q, %q)", s.what, dir, name)
					want(t, what, Put(f, dir, name, []byte("xy")), plainPut(p, dir, name, []byte("xy")))
					want(t, what, Raw(f, dir, name, []byte("z")), plainRaw(p, dir, name, []byte("z")))
					if !seenOf(f).same(seenOf(p)) {
						t.Fatalf("%s: %v, not %v", what, seenOf(f), seenOf(p))
					}
				}
			}
		}
	}
}

// P7.1: the name's length at both sides of what is allowed, and errors that more than one thing asks for.
func TestErrorsInOrder(t *testing.T) {
	long, most := make([]byte, api.MaxFile-7), make([]byte, api.MaxFile+1)
	name28, name29 := strings.Repeat("n", 28), strings.Repeat("n", 29)
	f := with(t)
	off := without(t, scenes()[1])
	for _, c := range []struct {
		what      string
		e, wanted api.Errno
	}{
		{"Put of nil", Put(nil, "d", "a", nil), api.ErrNil},
		{"Put of nil, long", Put(nil, "D", name29, long), api.ErrNil},
		{"Raw of nil", Raw(nil, "d", "a", nil), api.ErrNil},
		{"Raw of nil, long", Raw(nil, "D", name29, most), api.ErrNil},
		{"Put, too long, off", Put(off, "D", name29, long), api.ErrFrameLong},
		{"Put, too long", Put(f, "none", name29, long), api.ErrFrameLong},
		{"Put, name too long, off", Put(off, "D", name29, nil), api.ErrName},
		{"Raw, name too long, off", Raw(off, "none", name29, most), api.ErrName},
		{"Raw, off", Raw(off, "D", "A", nil), api.ErrDown},
		{"Put, off", Put(off, "D", "A", nil), api.ErrDown},
		{"Raw, no directory's name", Raw(f, "D", "a", nil), api.ErrName},
		{"Raw, no directory, no name", Raw(f, "none", "A", nil), api.ErrNoDir},
		{"Put, no directory", Put(f, "none", "a", nil), api.ErrNoDir},
		{"Raw, no name", Raw(f, "d", "A", nil), api.ErrName},
	} {
		want(t, "P7.1: "+c.what, c.e, c.wanted)
	}
	if f.Steps() != 1 {
		t.Errorf("P7.1: errors did %d steps", f.Steps()-1)
	}
	must(t, Put(f, "d", name28, []byte("x")))
	gets(t, f, name28, "x")
	// The empty name is found out by Rename alone, behind what was done till then.
	want(t, "P7.1: the empty name", Raw(f, "d", "", []byte("x")), api.ErrName)
	lists(t, f, name28, "tmp.")
}

// P7.1: as many bytes as a file may have.
func TestLongFiles(t *testing.T) {
	b := bytes.Repeat([]byte("0123456"), api.MaxFile/7+1)
	f := with(t)
	must(t, Put(f, "d", "a", b[:api.MaxFile-8]))
	if got, e := Get(f, "d", "a"); !bytes.Equal(got, b[:api.MaxFile-8]) || e != api.OK {
		t.Errorf("P7.2: Get of the most: %d bytes, %d", len(got), e)
	}
	steps := f.Steps()
	want(t, "P7.1: Put of a byte too much", Put(f, "d", "a", b[:api.MaxFile-7]), api.ErrFrameLong)
	if f.Steps() != steps {
		t.Errorf("P7.1: Put of a byte too much did %d steps", f.Steps()-steps)
	}
	must(t, Raw(f, "d", "a", b[:api.MaxFile]))
	if got, e := f.Read("d", "a"); !bytes.Equal(got, b[:api.MaxFile]) || e != api.OK {
		t.Errorf("P7.1: Raw of the most: %d bytes, %d", len(got), e)
	}
	want(t, "P7.1: Raw of a byte too much", Raw(f, "d", "b", b[:api.MaxFile+1]), api.ErrLong)
	lists(t, f, "a", "tmp.b")
	if got, e := f.Read("d", "tmp.b"); len(got) != 0 || e != api.OK {
		t.Errorf("P7.1: Raw of a byte too much: %d bytes are left, %d", len(got), e)
	}
}

// P7.1: in a directory of as many entries as there may be, an elder tmp. makes way ahead of the new one.
func TestFullDirectory(t *testing.T) {
	f := with(t)
	for n := range api.MaxFiles - 1 {
		must(t, f.Create("d", Hex(int64(n))))
	}
	must(t, Put(f, "d", "a", []byte("x")))
	want(t, "P7.1: Put into a full directory", Put(f, "d", "a", []byte("y")), api.ErrMany)
	gets(t, f, "a", "x")
	must(t, f.Rename("d", Hex(0), "tmp.a"), Put(f, "d", "a", []byte("y")))
	gets(t, f, "a", "y")
}

// P7.1: without room all is as it was but for the tmp., which the next Put removes.
func TestPutWithoutRoom(t *testing.T) {
	f := with(t)
	must(t, Put(f, "d", "a", []byte("old")))
	for n := range 8 + 3 {
		must(t, f.Room(f.Used()+n))
		want(t, "P7.1: Put without room", Put(f, "d", "a", []byte("new")), api.ErrFull)
		lists(t, f, "a", "tmp.a")
		gets(t, f, "a", "old")
	}
	must(t, f.Room(f.Used()+8+3), Put(f, "d", "a", []byte("new")))
	lists(t, f, "a")
	gets(t, f, "a", "new")
}

// P7.2
func TestGet(t *testing.T) {
	f := with(t)
	for n := range 300 {
		b := bytes.Repeat([]byte{byte(n)}, n)
		must(t, Put(f, "d", "a", b))
		gets(t, f, "a", string(b))
	}
	inner := plainFrame(plainFrame([]byte("in")))
	must(t, Put(f, "d", "a", inner))
	gets(t, f, "a", string(inner))
}

// P7.2: Read's errors, in their order, and the steps that aren't done.
func TestErrorsOfGet(t *testing.T) {
	f, off := with(t), without(t, scenes()[2])
	must(t, f.Create("d", "torn"))
	for _, c := range []struct {
		f         *simfs.FS
		dir, name string
		wanted    api.Errno
	}{
		{nil, "d", "a", api.ErrNil},
		{nil, "", "", api.ErrNil},
		{off, "d", "a", api.ErrDown},
		{off, "D", "A", api.ErrDown},
		{f, "D", "torn", api.ErrName},
		{f, "d", "A", api.ErrName},
		{f, "d", "", api.ErrName},
		{f, "none", "A", api.ErrName},
		{f, "d", strings.Repeat("n", 33), api.ErrName},
		{f, "none", "a", api.ErrNoDir},
		{f, "d", "a", api.ErrNoFile},
		{f, "d", strings.Repeat("n", 32), api.ErrNoFile},
		{f, "d", "torn", api.ErrTorn},
	} {
		if b, e := Get(c.f, c.dir, c.name); len(b) != 0 || e != c.wanted {
			t.Errorf("P7.2: Get(%q, %q): %q, %d, not %d", c.dir, c.name, b, e, c.wanted)
		}
	}
	if f.Steps() != 2 {
		t.Errorf("P7.2: Get did %d steps", f.Steps()-2)
	}
}

// P7.2: bytes that aren't just one frame.
func TestTornFiles(t *testing.T) {
	f := with(t)
	whole := plainFrame([]byte("text"))
	torn := [][]byte{nil, {0}, make([]byte, 8), make([]byte, 12), []byte("text"), append(whole, 0), slices.Concat(whole, whole), slices.Concat(plainFrame(nil), whole), slices.Concat(whole, plainFrame(nil))}
	for n := range whole {
		torn = append(torn, whole[:n], whole[n+1:])
		for bit := range 8 {
			b := slices.Clone(whole)
			b[n] ^= 1 << bit
			torn = append(torn, b)
		}
	}
	for _, b := range torn {
		must(t, f.Plant("d", "a", b))
		getsNone(t, f, "a", api.ErrTorn)
		must(t, Raw(f, "d", "a", b))
		getsNone(t, f, "a", api.ErrTorn)
	}
	must(t, f.Plant("d", "a", whole))
	gets(t, f, "a", "text")
	must(t, f.Spoil("d", "a", 8, 0))
	gets(t, f, "a", "text")
	must(t, f.Spoil("d", "a", 8, 128))
	getsNone(t, f, "a", api.ErrTorn)
}

// P7.3: which names go.
func TestClean(t *testing.T) {
	f := with(t)
	cleans(t, f, 0, api.OK)
	stay := []string{"0", "tm.p", "tmp", "tmq.", "tnp.", "x.tmp.", "z"}
	for _, name := range stay {
		filled(t, f, "d", name, name)
	}
	cleans(t, f, 0, api.OK)
	if f.Steps() != 1+2*len(stay) {
		t.Errorf("P7.3: Clean of no tmp. did %d steps", f.Steps()-1-2*len(stay))
	}
	for _, name := range []string{"tmp.", "tmp..", "tmp.0", "tmp.tmp.", "tmp." + strings.Repeat("n", 28)} {
		filled(t, f, "d", name, name)
	}
	steps := f.Steps()
	cleans(t, f, 5, api.OK)
	if f.Steps() != steps+6 {
		t.Errorf("P7.3: Clean of five did %d steps", f.Steps()-steps)
	}
	lists(t, f, stay...)
	must(t, f.Crash())
	lists(t, f, stay...)
	cleans(t, f, 0, api.OK)
}

// P7.3: a Clean that the power cuts off answers nothing, and has removed the first ones alone.
func TestCleanCutOff(t *testing.T) {
	all := []string{"a", "tmp.1", "tmp.2", "tmp.3", "z"}
	for n := range 5 {
		f := with(t)
		for _, name := range all {
			must(t, f.Plant("d", name, nil))
		}
		must(t, f.Fuse(n))
		if n < 4 {
			cleans(t, f, 0, api.ErrDown)
		} else {
			cleans(t, f, 3, api.OK)
		}
		must(t, f.Crash(min(n, 3)))
		lists(t, f, append([]string{"a"}, all[1+min(n, 3):]...)...)
		// What isn't made to last comes back.
		if n == 3 {
			must(t, f.Plant("d", "tmp.1", nil), f.Fuse(1))
			cleans(t, f, 0, api.ErrDown)
			must(t, f.Crash(0))
			lists(t, f, "a", "tmp.1", "z")
		}
	}
}

// P7.3: Clean and Ready as the chapter's words say, from each scene, with each fuse and each room, behind each crash.
func TestCleanAndReady(t *testing.T) {
	agree(t, "P7.3: Clean",
		func(f *simfs.FS) string { n, e := Clean(f, "d"); return fmt.Sprint(n, e) },
		func(f *simfs.FS) string { n, e := plainClean(f, "d"); return fmt.Sprint(n, e) })
	agree(t, "P7.3: Ready",
		func(f *simfs.FS) string { l, e := Ready(f, "d"); return fmt.Sprint(l, e) },
		func(f *simfs.FS) string { l, e := plainReady(f, "d"); return fmt.Sprint(l, e) })
}

// P7.3: all names of directories.
func TestNamesOfCleanAndReady(t *testing.T) {
	for _, s := range scenes() {
		for _, dir := range append(names(), "d", "c", "tmp.d") {
			f, p := s.made(t), s.made(t)
			n, e := Clean(f, dir)
			if m, wanted := plainClean(p, dir); n != m || e != wanted {
				t.Errorf("P7.3: %s, Clean(%q): %d, %d, not %d, %d", s.what, dir, n, e, m, wanted)
			}
			l, wanted := plainReady(p, dir)
			readies(t, f, dir, wanted, l...)
			if !seenOf(f).same(seenOf(p)) {
				t.Fatalf("P7.3: %s, (%q): %v, not %v", s.what, dir, seenOf(f), seenOf(p))
			}
		}
	}
}

// P7.3
func TestReady(t *testing.T) {
	f := roomy(t, 100)
	readies(t, f, "d", api.OK)
	if f.Steps() != 1 || !slices.Equal(f.Dirs(), []string{"d"}) {
		t.Errorf("P7.3: Ready of none: %d steps, %q", f.Steps(), f.Dirs())
	}
	must(t, f.Crash())
	readies(t, f, "d", api.OK)
	if f.Steps() != 1 {
		t.Errorf("P7.3: Ready of what is ready: %d steps", f.Steps()-1)
	}
	for _, name := range []string{"b", "tmp.b", "a", "tmp.a", "tmp"} {
		filled(t, f, "d", name, name)
	}
	readies(t, f, "d", api.OK, "a", "b", "tmp")
	must(t, f.Crash())
	lists(t, f, "a", "b", "tmp")
}

// P7.3: the errors of Clean and Ready.
func TestErrorsOfCleanAndReady(t *testing.T) {
	f, off := with(t), without(t, scenes()[1])
	for _, c := range []struct {
		f            *simfs.FS
		dir          string
		clean, ready api.Errno
	}{
		{nil, "d", api.ErrNil, api.ErrNil},
		{nil, "D", api.ErrNil, api.ErrNil},
		{off, "d", api.ErrDown, api.ErrDown},
		{off, "D", api.ErrDown, api.ErrDown},
		{off, "none", api.ErrDown, api.ErrDown},
		{f, "D", api.ErrName, api.ErrName},
		{f, "", api.ErrName, api.ErrName},
		{f, strings.Repeat("n", 33), api.ErrName, api.ErrName},
		{f, strings.Repeat("n", 32), api.ErrNoDir, api.OK},
	} {
		if n, e := Clean(c.f, c.dir); n != 0 || e != c.clean {
			t.Errorf("P7.3: Clean(%q): %d, %d, not %d", c.dir, n, e, c.clean)
		}
		readies(t, c.f, c.dir, c.ready)
	}
}

// P7.3: where there are as many directories as there may be, Ready makes none, but readies those that are there.
func TestReadyOfManyDirectories(t *testing.T) {
	f := roomy(t, 100)
	for n := range api.MaxDirs {
		readies(t, f, Hex(int64(n)), api.OK)
	}
	readies(t, f, "d", api.ErrMany)
	filled(t, f, Hex(5), "tmp.a", "x")
	filled(t, f, Hex(5), "b", "x")
	readies(t, f, Hex(5), api.OK, "b")
	if len(f.Dirs()) != api.MaxDirs {
		t.Errorf("P7.3: %d directories", len(f.Dirs()))
	}
	must(t, f.Fuse(0))
	readies(t, f, "d", api.ErrMany)
}

// P7.3: the power may go at Mkdir, and at each step of Clean.
func TestReadyCutOff(t *testing.T) {
	f := roomy(t, 100)
	must(t, f.Fuse(0))
	readies(t, f, "d", api.ErrDown)
	must(t, f.Crash())
	if len(f.Dirs()) != 0 {
		t.Errorf("P7.3: Ready without power made %q", f.Dirs())
	}
	readies(t, f, "d", api.OK)
	for n := range 3 {
		must(t, f.Plant("d", "tmp.a", nil), f.Plant("d", "tmp.b", nil), f.Plant("d", "c", nil), f.Fuse(n))
		readies(t, f, "d", api.ErrDown)
		must(t, f.Crash())
	}
	readies(t, f, "d", api.OK, "c")
}

// numbers answers numbers at all edges, those beside them, and mixed ones.
func numbers() []int64 {
	l := []int64{0, math.MaxInt64, math.MinInt64, math.MaxInt64 - 1, math.MinInt64 + 1, 255, api.MaxId, api.MaxOff, api.Forever}
	for k := range 63 {
		n := int64(1) << k
		l = append(l, n-1, n, n+1, -n-1, -n, -n+1)
	}
	x := uint64(1)
	for range 2000 {
		x = x*6364136223846793005 + 1442695040888963407
		l = append(l, int64(x), int64(x>>1), int64(x>>(x>>58)))
	}
	return l
}

// P7.4: there, and back if the number isn't below 0.
func TestHexAndBack(t *testing.T) {
	for _, n := range numbers() {
		s := Hex(n)
		if s != fmt.Sprintf("%016x", uint64(n)) {
			t.Fatalf("P7.4: Hex(%d): %s", n, s)
		}
		m, ok := Unhex(s)
		if ok != (n >= 0) || ok && m != n || !ok && m != 0 {
			t.Fatalf("P7.4: Unhex(%s) of %d: %d, %v", s, n, m, ok)
		}
	}
}

// P7.4: written out.
func TestHexNames(t *testing.T) {
	for n, s := range map[int64]string{
		0:                  "0000000000000000",
		1:                  "0000000000000001",
		10:                 "000000000000000a",
		16:                 "0000000000000010",
		1<<40 - 1:          "000000ffffffffff",
		0x0123456789abcdef: "0123456789abcdef",
		math.MaxInt64:      "7fffffffffffffff",
		math.MinInt64:      "8000000000000000",
		-1:                 "ffffffffffffffff",
		-256:               "ffffffffffffff00",
	} {
		if h := Hex(n); h != s {
			t.Errorf("P7.4: Hex(%d): %s, not %s", n, h, s)
		}
	}
}

// P7.4: texts rise as the numbers do.
func TestHexRises(t *testing.T) {
	l := slices.DeleteFunc(numbers(), func(n int64) bool { return n < 0 })
	slices.Sort(l)
	if !slices.IsSortedFunc(l, func(a, b int64) int { return strings.Compare(Hex(a), Hex(b)) }) {
		t.Error("P7.4: the texts don't rise")
	}
}

// P7.4: texts that are no Hex, one of each byte at each place among them.
func TestUnhexOfOthers(t *testing.T) {
	for _, s := range []string{
		"", "0", "ff", "-1", "000000000000000", "00000000000000000", "0000000000000000\n", " 000000000000000",
		"+000000000000001", "-000000000000001", "-000000000000000", "+000000000000000", "0x00000000000001", "0X00000000000001",
		"0000_0000_000001", "00000000000000fF", "00000000000000FF", "000000000000000g", "8000000000000000", "ffffffffffffffff",
		"٠٠٠٠٠٠٠٠", "0000000000000\xff\xff\xff", "00000000.0000000", "0000000000001e+1", "000000000000x000",
		strings.Repeat("0", 17), strings.Repeat("0", 32), strings.Repeat("f", 1<<16), strings.Repeat("\x00", 16),
	} {
		if n, ok := Unhex(s); ok || n != 0 {
			t.Errorf("P7.4: Unhex(%q): %d, %v", s, n, ok)
		}
	}
	for at := range 16 {
		for c := range 256 {
			s := []byte("0123456789abcdef")
			s[at] = byte(c)
			digit := strings.IndexByte("0123456789abcdef", byte(c))
			n, ok := Unhex(string(s))
			if ok != (digit >= 0 && (at > 0 || digit < 8)) || ok && Hex(n) != string(s) || !ok && n != 0 {
				t.Errorf("P7.4: Unhex(%q): %d, %v", s, n, ok)
			}
		}
	}
}

// told answers what Get tells of d's a: its bytes, or its error.
func told(f *simfs.FS) string {
	b, e := Get(f, "d", "a")
	return fmt.Sprintf("%q, %d", b, e)
}

// P7.5: from each scene with a directory, wherever the power goes or the room ends, whatever is kept.
func TestPutWhereThePowerGoes(t *testing.T) {
	for _, s := range scenes()[1:] {
		for _, b := range []string{"", "x", "new", strings.Repeat("much ", 10)} {
			for _, l := range manyLimits() {
				for _, picks := range manyPicks() {
					f := s.made(t)
					ahead, put := told(f), fmt.Sprintf("%q, 0", b)
					l.on(t, f)
					e := Put(f, "d", "a", []byte(b))
					if f.On() && e != api.OK && told(f) != ahead {
						t.Fatalf("P7.5: %s, Put(%q), %v: %d, and %s, not %s", s.what, b, l, e, told(f), ahead)
					}
					must(t, f.Crash(picks...))
					got := told(f)
					if got != put && (e == api.OK || got != ahead) {
						t.Fatalf("P7.5: %s, Put(%q), %v, crash %v: %d, and %s, not %s", s.what, b, l, picks, e, got, ahead)
					}
				}
			}
		}
	}
}

// P7.5: Puts one behind the other, of a few names, each of which the power may cut off; what came of each stays.
func TestPutsWhereThePowerGoes(t *testing.T) {
	f := with(t)
	there := map[string]string{}
	x := uint32(1)
	next := func(n int) int {
		x = x*1664525 + 1013904223
		return int(x>>16) % n
	}
	outcomes := map[string]int{}
	for round := range 20000 {
		name := []string{"a", "b", "c"}[next(3)]
		b := strings.Repeat(fmt.Sprint(round), next(4))
		must(t, f.Fuse(next(12)), f.Room(next(200)))
		e := Put(f, "d", name, []byte(b))
		if !f.On() || next(4) == 0 {
			must(t, f.Crash(next(10), next(30), next(30), next(30), next(30)))
		}
		got, ge := Get(f, "d", name)
		old, was := there[name]
		switch kept := ge == api.OK && string(got) == old && was || ge == api.ErrNoFile && !was; {
		case ge == api.OK && string(got) == b:
			there[name] = b
			outcomes[fmt.Sprint("put ", e)]++
		case e == api.OK || !kept:
			t.Fatalf("P7.5: round %d: Put(%s, %q): %d, and %q, %d, not %q", round, name, b, e, got, ge, old)
		default:
			outcomes[fmt.Sprint("kept ", e)]++
		}
		for other, s := range there {
			gets(t, f, other, s)
		}
		if t.Failed() {
			t.Fatalf("P7.5: round %d: Put(%s, %q): %d", round, name, b, e)
		}
	}
	for _, o := range []string{"put 0", "put 60", "kept 60", "kept 64"} {
		if outcomes[o] < 100 {
			t.Errorf("P7.5: the rounds come to %v", outcomes)
		}
	}
}

// R4: what is handed in stays, spare room behind its end too, and what is done with it later counts for nothing.
func TestArgumentsStay(t *testing.T) {
	f := with(t)
	room := []byte("bytes, and what is behind")
	must(t, Put(f, "d", "a", room[:5]), Raw(f, "d", "b", room[:5]))
	if string(room) != "bytes, and what is behind" {
		t.Errorf("R4: it became %q", room)
	}
	clear(room)
	gets(t, f, "a", "bytes")
	if b, e := f.Read("d", "b"); string(b) != "bytes" || e != api.OK {
		t.Errorf("R4: the file became %q, %d", b, e)
	}
}

// R4: what is told is the caller's.
func TestAnswersAreTheCallers(t *testing.T) {
	f := with(t)
	must(t, Put(f, "d", "a", []byte("bytes")), Put(f, "d", "b", nil))
	b, _ := Get(f, "d", "a")
	clear(b[:cap(b)])
	_ = append(b, "more"...)
	gets(t, f, "a", "bytes")
	l, _ := Ready(f, "d")
	clear(l[:cap(l)])
	readies(t, f, "d", api.OK, "a", "b")
}
