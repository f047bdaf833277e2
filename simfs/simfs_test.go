package simfs

import (
	"bytes"
	"fmt"
	"math"
	"slices"
	"strings"
	"testing"

	"headgate/api"
)

// made answers a file system with much room.
func made(t *testing.T) *FS {
	t.Helper()
	return roomy(t, 1<<30)
}

func roomy(t *testing.T, room int) *FS {
	t.Helper()
	f, e := New(room)
	if f == nil || e != api.OK {
		t.Fatalf("P6.1: New(%d): %v, %d", room, f, e)
	}
	return f
}

// must holds that the calls that answered l were OK.
func must(t *testing.T, l ...api.Errno) {
	t.Helper()
	for i, e := range l {
		if e != api.OK {
			t.Fatalf("call %d of these: %d", i, e)
		}
	}
}

// want holds what a call answered against an error.
func want(t *testing.T, what string, e, wanted api.Errno) {
	t.Helper()
	if e != wanted {
		t.Errorf("%s: %d, not %d", what, e, wanted)
	}
}

// reads holds a file's bytes against s.
func reads(t *testing.T, f *FS, dir, name, s string) {
	t.Helper()
	if b, e := f.Read(dir, name); string(b) != s || e != api.OK {
		t.Errorf("Read(%q, %q): %q, %d, not %q", dir, name, b, e, s)
	}
}

// lists holds a directory's names against names.
func lists(t *testing.T, f *FS, dir string, names ...string) {
	t.Helper()
	if l, e := f.List(dir); !slices.Equal(l, names) || e != api.OK {
		t.Errorf("List(%q): %q, %d, not %q", dir, l, e, names)
	}
}

// filled does Create of a file, and Append of s to it.
func filled(t *testing.T, f *FS, dir, name, s string) {
	t.Helper()
	must(t, f.Create(dir, name), f.Append(dir, name, []byte(s)))
}

// agree does calls on a file system and on what the chapter's words make of it, and holds the two against each other.
func agree(t *testing.T, room int, calls ...call) {
	t.Helper()
	f, plain := roomy(t, room), newPlain(room)
	for i, c := range calls {
		ahead := seenOf(f)
		e, wanted := c.on(f), plain.do(c)
		if e != wanted {
			t.Fatalf("call %d of %v: %v: %d, not %d", i, calls[:i], c, e, wanted)
		}
		s := seenOf(f)
		if !s.same(plain.seen()) {
			t.Fatalf("call %d of %v: %v: %v, not %v", i, calls[:i], c, s, plain.seen())
		}
		if ahead.on = s.on; e != api.OK && s.on && !s.same(ahead) {
			t.Fatalf("R2: call %d of %v: %v: %v became %v", i, calls[:i], c, ahead, s)
		}
	}
}

// The chapter's examples.
func TestExamples(t *testing.T) {
	f := made(t)
	must(t, f.Mkdir("d"))
	filled(t, f, "d", "a", "xy")
	must(t, f.Crash())
	lists(t, f, "d")

	filled(t, f, "d", "a", "xy")
	must(t, f.SyncDir("d"), f.Crash())
	lists(t, f, "d", "a")
	reads(t, f, "d", "a", "")

	must(t, f.Append("d", "a", []byte("xy")), f.Crash(0, 1))
	reads(t, f, "d", "a", "x")

	must(t, f.Remove("d", "a"))
	filled(t, f, "d", "a", "xy")
	must(t, f.SyncDir("d"), f.Sync("d", "a"), f.Crash())
	reads(t, f, "d", "a", "xy")
}

// P6.1
func TestNew(t *testing.T) {
	for _, room := range []int{0, 1, 1000, 1<<30 - 1, 1 << 30} {
		f := roomy(t, room)
		if s := seenOf(f); !s.same(seen{on: true}) {
			t.Errorf("P6.1: New(%d): %v", room, s)
		}
	}
	for _, room := range []int{-1, 1<<30 + 1, 1 << 31, 1 << 32, math.MinInt, math.MaxInt} {
		if f, e := New(room); f != nil || e != api.ErrArg {
			t.Errorf("P6.1: New(%d): %v, %d", room, f, e)
		}
	}
}

// P6.1: the room at both sides of what is used.
func TestRoom(t *testing.T) {
	f := roomy(t, 3)
	must(t, f.Mkdir("d"), f.Create("d", "a"))
	want(t, "P6.2: four bytes into three", f.Append("d", "a", []byte("abcd")), api.ErrFull)
	must(t, f.Append("d", "a", []byte("abc")))
	want(t, "P6.2: one byte into none", f.Append("d", "a", []byte("d")), api.ErrFull)
	must(t, f.Append("d", "a", nil), f.Room(5), f.Append("d", "a", []byte("de")))
	must(t, f.Room(4))
	want(t, "P6.1: no byte where more is used than there is room", f.Append("d", "a", nil), api.ErrFull)
	reads(t, f, "d", "a", "abcde")
	must(t, f.Create("d", "b"), f.Sync("d", "a"), f.Rename("d", "b", "c"), f.SyncDir("d"), f.Mkdir("e"), f.Remove("d", "c"))
	must(t, f.Room(0), f.Room(1<<30), f.Append("d", "a", []byte("f")), f.Crash())
	for _, n := range []int{-1, 1<<30 + 1, 1 << 32, math.MinInt, math.MaxInt} {
		want(t, "P6.1: Room", f.Room(n), api.ErrArg)
	}
	must(t, f.Append("d", "a", []byte("g")))
	reads(t, f, "d", "a", "abcdeg")

	none := roomy(t, 0)
	must(t, none.Mkdir("d"), none.Create("d", "a"), none.Append("d", "a", nil))
	want(t, "P6.2: Append without room", none.Append("d", "a", []byte("x")), api.ErrFull)
}

// tour is calls that are all OK, and steps.
func tour() []call {
	return []call{
		{what: "Mkdir", dir: "d"}, {what: "Create", dir: "d", name: "a"}, {what: "Append", dir: "d", name: "a", b: "abc"}, {what: "Sync", dir: "d", name: "a"},
		{what: "Append", dir: "d", name: "a", b: "de"}, {what: "SyncDir", dir: "d"}, {what: "Create", dir: "d", name: "b"}, {what: "Append", dir: "d", name: "b", b: "f"},
		{what: "Rename", dir: "d", name: "a", to: "b"}, {what: "Mkdir", dir: "c"}, {what: "Create", dir: "c", name: "a"}, {what: "Rename", dir: "d", name: "b", to: "b"},
		{what: "Remove", dir: "c", name: "a"}, {what: "Create", dir: "d", name: "a"}, {what: "Append", dir: "d", name: "a"}, {what: "Remove", dir: "d", name: "b"},
	}
}

// P6.1, P6.2: with a fuse of n it is the step behind n others at which the power goes; of what isn't OK nothing is counted.
func TestFuse(t *testing.T) {
	l := tour()
	for n := range len(l) + 1 {
		f, sure := made(t), made(t)
		must(t, f.Fuse(n))
		for i, c := range l {
			// None of these is a step.
			want(t, "P6.2: a call that isn't OK", f.Mkdir("D"), api.ErrName)
			want(t, "P6.2: a call that isn't OK", f.Remove("none", "a"), api.ErrNoDir)
			f.Read("d", "a")
			f.List("d")
			f.Spoil("d", "a", 0, 0)
			must(t, f.Room(1<<30))
			if !f.On() || f.Steps() != i {
				t.Fatalf("fuse %d: on %t, %d steps at %v", n, f.On(), f.Steps(), c)
			}
			if i == n {
				want(t, "a step that puts the power out", c.on(f), api.ErrDown)
				break
			}
			must(t, c.on(f), c.on(sure))
		}
		if f.On() != (n == len(l)) || f.Steps() != n || f.Used() != sure.Used() {
			t.Fatalf("fuse %d: on %t, %d steps, used %d, not %d", n, f.On(), f.Steps(), f.Used(), sure.Used())
		}
		// What came ahead of the step is there, and of the step nothing.
		must(t, f.Crash(all()...), sure.Crash(all()...))
		if a, b := seenOf(f), seenOf(sure); !a.same(b) {
			t.Fatalf("fuse %d: %v, not %v", n, a, b)
		}
	}
}

// all answers picks by which all stays, of up to 15 items each: 720720 is a multiple of all numbers up to 16.
func all() []int { return slices.Repeat([]int{720720 - 1}, 100) }

// P6.1: a fuse is in the place of another one.
func TestFuses(t *testing.T) {
	f := made(t)
	must(t, f.Fuse(1), f.Fuse(2), f.Mkdir("a"), f.Fuse(3), f.Mkdir("b"), f.Mkdir("c"), f.Fuse(math.MaxInt), f.Mkdir("d"))
	for _, n := range []int{-1, -2, math.MinInt} {
		want(t, "P6.1: Fuse", f.Fuse(n), api.ErrArg)
	}
	must(t, f.Mkdir("e"), f.Fuse(1))
	want(t, "P6.1: Fuse", f.Fuse(-1), api.ErrArg)
	must(t, f.Mkdir("f"))
	want(t, "the step behind the fuse", f.Mkdir("g"), api.ErrDown)
	// A fuse doesn't put the power on, and a crash leaves none.
	must(t, f.Fuse(5))
	want(t, "a step without power", f.Mkdir("g"), api.ErrDown)
	must(t, f.Crash())
	for i := range 20 {
		must(t, f.Mkdir(fmt.Sprint("h", i)))
	}
	must(t, f.Fuse(0), f.Crash(), f.Mkdir("i"), f.Fuse(0))
	want(t, "a step at the fuse 0", f.Mkdir("j"), api.ErrDown)
	if f.Steps() != 27 || f.On() || len(f.Dirs()) != 27 {
		t.Errorf("P6.3: %d steps, on %t, %d directories", f.Steps(), f.On(), len(f.Dirs()))
	}
}

// P6.2, P6.3, P6.5: what a name is, in every place of every call.
func TestNames(t *testing.T) {
	names := []string{"", strings.Repeat("a", 32), strings.Repeat("z", 33), strings.Repeat(".", 32), "..", "a.b", "tmp.0", "a/b", "a ", " a", "aA", "Aa", "a\x00", "\u00e4", "a\n", "0123456789", "abcdefghijklmnopqrstuvwxyz", strings.Repeat("x", 1000)}
	for c := range 256 {
		names = append(names, string([]byte{byte(c)}), string([]byte{'a', byte(c)}), string([]byte{byte(c), 'a'}))
	}
	for _, what := range ofDirs {
		for _, s := range names {
			for at, c := range []call{
				{what: what, dir: s, name: "a", to: "b"}, {what: what, dir: "d", name: s, to: "b"}, {what: what, dir: "d", name: "a", to: s},
				{what: what, dir: "none", name: s, to: s}, {what: what, dir: s, name: s, to: s},
			} {
				f, plain := made(t), newPlain(1<<30)
				for _, first := range []call{{what: "Mkdir", dir: "d"}, {what: "Create", dir: "d", name: "a"}} {
					must(t, first.on(f), plain.do(first))
				}
				if e, wanted := c.on(f), plain.do(c); e != wanted {
					t.Fatalf("place %d: %v: %d, not %d", at, c, e, wanted)
				}
				if a, b := seenOf(f), plain.seen(); !a.same(b) {
					t.Fatalf("place %d: %v: %v, not %v", at, c, a, b)
				}
			}
		}
	}
}

// P6.2: of several errors the first is told, with and without power, and without a fuse's being used up.
func TestErrorsInOrder(t *testing.T) {
	long := strings.Repeat("x", api.MaxFile+1)
	for _, what := range everyOne {
		for _, dir := range []string{"", "D", "none", "d", "e"} {
			for _, name := range []string{"", "A", "none", "a", "b"} {
				if what == "Rename" {
					for _, to := range []string{"", "B", "b", "a"} {
						holdError(t, call{what: what, dir: dir, name: name, to: to})
					}
					continue
				}
				for i, b := range []string{"", "x", "xyz", long} {
					holdError(t, call{what: what, dir: dir, name: name, b: b, n: i - 1})
				}
			}
		}
	}
}

// holdError holds c against the chapter's words: with power, at a fuse of 0, and without power.
func holdError(t *testing.T, c call) {
	t.Helper()
	l := []call{{what: "Mkdir", dir: "d"}, {what: "Create", dir: "d", name: "a"}, {what: "Append", dir: "d", name: "a", b: "ab"}, {what: "Mkdir", dir: "e"}}
	agree(t, 4, append(l, c)...)
	l = append(l, call{what: "Fuse", n: 0})
	agree(t, 4, append(l, c)...)
	l = append(l, call{what: "Mkdir", dir: "f"})
	agree(t, 4, append(l, c)...)
}

// P6.2: as many directories as there may be.
func TestManyDirectories(t *testing.T) {
	f := made(t)
	var names []string
	for i := range 64 {
		names = append(names, fmt.Sprintf("d%02d", 63-i))
		must(t, f.Mkdir(names[i]))
	}
	want(t, "P6.2: one more directory", f.Mkdir("e"), api.ErrMany)
	want(t, "P6.2: one that is there", f.Mkdir("d07"), api.ErrThere)
	want(t, "P6.2: one of no name", f.Mkdir("D"), api.ErrName)
	slices.Reverse(names)
	if l := f.Dirs(); !slices.Equal(l, names) || f.Steps() != 64 {
		t.Errorf("P6.3: Dirs: %q, %d steps", l, f.Steps())
	}
	must(t, f.Crash())
	if l := f.Dirs(); !slices.Equal(l, names) {
		t.Errorf("P6.4: directories behind a crash: %q", l)
	}
}

// P6.2, P6.5: as many entries as there may be; those that were renamed over or removed are none, those of base don't count.
func TestManyFiles(t *testing.T) {
	f := made(t)
	must(t, f.Mkdir("d"), f.Mkdir("e"))
	var names []string
	for i := range 4096 {
		names = append(names, fmt.Sprintf("f%04d", 4095-i))
		must(t, f.Create("d", names[i]))
	}
	want(t, "P6.2: one more file", f.Create("d", "g"), api.ErrMany)
	want(t, "P6.2: one that is there", f.Create("d", "f0007"), api.ErrThere)
	want(t, "P6.5: one more file", f.Plant("d", "g", nil), api.ErrMany)
	want(t, "P6.5: one more file, that is long, too", f.Plant("d", "g", make([]byte, 16777217)), api.ErrLong)
	must(t, f.Plant("d", "f0007", []byte("x")), f.Rename("d", "f0008", "g"), f.Create("e", "g"))
	slices.Reverse(names)
	lists(t, f, "d", append(slices.Concat(names[:8], names[9:]), "g")...)
	must(t, f.Remove("d", "g"), f.Create("d", "h"))
	want(t, "P6.2: one more file", f.Create("d", "g"), api.ErrMany)
	must(t, f.Rename("d", "h", "f0000"), f.Create("d", "g"))
	want(t, "P6.2: one more file", f.Create("d", "h"), api.ErrMany)
	must(t, f.Crash())
	lists(t, f, "d", names...)
	want(t, "P6.2: one more file", f.Create("d", "h"), api.ErrMany)
}

// P6.2, P6.5: files as long as they may be.
func TestLongFiles(t *testing.T) {
	f := roomy(t, 16777216)
	must(t, f.Mkdir("d"), f.Create("d", "a"))
	most := bytes.Repeat([]byte("0123456789abcdef"), 1<<20)
	want(t, "P6.2: too long, and no room", f.Append("d", "a", append(slices.Clone(most), 'x')), api.ErrLong)
	must(t, f.Append("d", "a", most), f.Append("d", "a", nil))
	want(t, "P6.2: too long by one, and no room", f.Append("d", "a", []byte("x")), api.ErrLong)
	must(t, f.Create("d", "b"))
	want(t, "P6.2: no room", f.Append("d", "b", []byte("x")), api.ErrFull)
	must(t, f.Room(1<<30))
	want(t, "P6.2: too long by one", f.Append("d", "a", []byte("x")), api.ErrLong)
	must(t, f.Append("d", "b", []byte("x")))
	want(t, "P6.2: too long by one", f.Append("d", "b", most), api.ErrLong)
	must(t, f.Append("d", "b", most[:len(most)-1]))
	if b, e := f.Read("d", "a"); !bytes.Equal(b, most) || e != api.OK || f.Used() != 2*16777216 {
		t.Errorf("P6.3: the longest file: %d bytes, %d, used %d", len(b), e, f.Used())
	}
	must(t, f.Plant("d", "c", most))
	want(t, "P6.5: too long by one", f.Plant("d", "c", append(most, 'x')), api.ErrLong)
	want(t, "P6.5: too long by one", f.Plant("d", "d", append(most, 'x')), api.ErrLong)
	want(t, "P6.2: too long by one", f.Append("d", "c", []byte("x")), api.ErrLong)
	must(t, f.Spoil("d", "c", len(most)-1, 1))
	want(t, "P6.5: a place behind the last one", f.Spoil("d", "c", len(most), 1), api.ErrArg)
	must(t, f.Crash(5, len(most)))
	lists(t, f, "d", "a", "b", "c")
	reads(t, f, "d", "b", "")
	if f.Used() != 2*16777216 {
		t.Errorf("P6.3: used %d", f.Used())
	}
}

// P6.2: Rename, in the place of another one, of itself, and of nothing.
func TestRename(t *testing.T) {
	f := roomy(t, 10)
	must(t, f.Mkdir("d"))
	filled(t, f, "d", "a", "abc")
	filled(t, f, "d", "b", "defgh")
	must(t, f.Rename("d", "b", "b"))
	if f.Used() != 8 {
		t.Errorf("P6.3: used %d behind a rename to itself", f.Used())
	}
	lists(t, f, "d", "a", "b")
	reads(t, f, "d", "b", "defgh")
	must(t, f.Rename("d", "a", "b"))
	lists(t, f, "d", "b")
	reads(t, f, "d", "b", "abc")
	if f.Used() != 3 {
		t.Errorf("P6.3: used %d behind a rename over another one", f.Used())
	}
	want(t, "P6.2: Rename of none", f.Rename("d", "a", "b"), api.ErrNoFile)
	want(t, "P6.2: Rename of none to itself", f.Rename("d", "a", "a"), api.ErrNoFile)
	// The file goes on under its new name, and the elder name is free.
	must(t, f.Append("d", "b", []byte("def")), f.Create("d", "a"), f.Append("d", "a", []byte("ghij")))
	reads(t, f, "d", "b", "abcdef")
	reads(t, f, "d", "a", "ghij")
	want(t, "P6.2: Append without room", f.Append("d", "a", []byte("k")), api.ErrFull)
}

// P6.2, P6.4: what is used is what entries have, and not what may come back.
func TestUsed(t *testing.T) {
	f := roomy(t, 10)
	must(t, f.Mkdir("d"), f.Mkdir("e"))
	filled(t, f, "d", "a", "0123456789")
	want(t, "P6.2: Append without room", f.Append("d", "a", []byte("x")), api.ErrFull)
	must(t, f.Create("e", "b"))
	want(t, "P6.2: Append without room, in another directory", f.Append("e", "b", []byte("x")), api.ErrFull)
	must(t, f.Sync("d", "a"), f.SyncDir("d"), f.Remove("d", "a"), f.Append("e", "b", []byte("0123456")), f.Sync("e", "b"), f.SyncDir("e"))
	if f.Used() != 7 {
		t.Errorf("P6.3: used %d", f.Used())
	}
	must(t, f.Crash())
	if f.Used() != 17 {
		t.Errorf("P6.3: used %d behind the crash", f.Used())
	}
	want(t, "P6.2: Append without room", f.Append("e", "b", nil), api.ErrFull)
	must(t, f.Plant("d", "a", []byte("xyz")), f.Append("e", "b", nil), f.Plant("e", "c", []byte("0123456789")))
	if f.Used() != 20 {
		t.Errorf("P6.3: used %d", f.Used())
	}
}

// pending does on f what makes two operations pending in one directory, three in another one, and none in a third.
func pending(t *testing.T, f *FS) {
	t.Helper()
	must(t, f.Mkdir("c"), f.Mkdir("a"), f.Mkdir("b"))
	filled(t, f, "a", "y", "0123")
	filled(t, f, "a", "x", "45")
	must(t, f.Sync("a", "x"), f.SyncDir("a"), f.Append("a", "x", []byte("678")), f.Rename("a", "x", "w"))
	filled(t, f, "a", "z", "9")
	filled(t, f, "b", "n", "ab")
	must(t, f.Remove("b", "n"))
	filled(t, f, "b", "n", "cd")
	filled(t, f, "c", "p", "efg")
	must(t, f.SyncDir("c"))
}

// P6.4: what each pick is of, written out.
func TestCrashByPicks(t *testing.T) {
	for _, c := range []struct {
		picks []int
		files string
	}{
		{nil, "a/x=45 a/y= c/p="},
		{[]int{0, 0, 0, 1, 2, 3}, "a/x=456 a/y=01 c/p=efg"},
		{[]int{0, 0, 0, 3, 4, 2}, "a/x=45678 a/y=0123 c/p=ef"},
		{[]int{0, 0, 0, 4, 5, 4}, "a/x=45 a/y= c/p="},
		{[]int{1}, "a/w=45 a/y= c/p="},
		{[]int{1, 1, 0, 2, 3, 1, 1}, "a/w=4567 a/y=012 b/n=a c/p=e"},
		{[]int{2, 2, 7, 1, 1, 1, 1, 1}, "a/w=456 a/y=0 a/z=9 c/p=e"},
		{[]int{2, 3, 7, 1, 1, 1, 1, 1}, "a/w=456 a/y=0 a/z=9 b/n=c c/p=e"},
		{[]int{5, 7, 1, 7, 9, 3, 5, 3, 9, 9}, "a/w=45678 a/y=0123 a/z=9 b/n=cd c/p=efg"},
		{[]int{3, 4, 1, 8, 10, 7}, "a/x=45 a/y= c/p=efg"},
		// 2^64 - 1 is a multiple of 3 and 5, and 3 modulo 4; 2^63 is 2 modulo 3, 0 modulo 4, 3 modulo 5.
		{[]int{-1, -1, -1, -1, -1, -1, -1}, "a/x=45678 a/y= b/n= c/p=efg"},
		{[]int{math.MinInt, math.MinInt, 0, math.MinInt, -2, 1, -2}, "a/w=45 a/y=0123 a/z=9 c/p=ef"},
		{[]int{math.MaxInt, math.MaxInt, math.MaxInt, math.MaxInt, math.MaxInt, math.MaxInt, math.MaxInt}, "a/w=45678 a/y=01 b/n=c c/p=efg"},
	} {
		f := made(t)
		pending(t, f)
		steps := f.Steps()
		must(t, f.Crash(c.picks...))
		files, used := "", 0
		for _, dir := range f.Dirs() {
			names, _ := f.List(dir)
			for _, name := range names {
				b, _ := f.Read(dir, name)
				files += fmt.Sprintf(" %s/%s=%s", dir, name, b)
				used += len(b)
			}
		}
		if strings.TrimSpace(files) != c.files || f.Used() != used || f.Steps() != steps || !f.On() {
			t.Errorf("P6.4: Crash(%v): %s, used %d, %d steps, not %s", c.picks, files, f.Used(), f.Steps(), c.files)
		}
		// All is safe now, and nothing is pending.
		s := seenOf(f)
		must(t, f.Crash(1, 2, 3, 4, 5, 6, 7))
		if again := seenOf(f); !again.same(s) {
			t.Errorf("P6.4: a second crash: %v became %v", s, again)
		}
	}
}

// P6.4: a file that lost its bytes, or came back, goes on.
func TestBehindACrash(t *testing.T) {
	f := roomy(t, 6)
	must(t, f.Mkdir("d"))
	filled(t, f, "d", "a", "abc")
	must(t, f.Sync("d", "a"), f.SyncDir("d"), f.Append("d", "a", []byte("def")), f.Crash(0, 2), f.Append("d", "a", []byte("x")))
	reads(t, f, "d", "a", "abcdex")
	want(t, "P6.2: Append without room", f.Append("d", "a", []byte("y")), api.ErrFull)
	must(t, f.Crash())
	reads(t, f, "d", "a", "abcde")
	must(t, f.Remove("d", "a"))
	filled(t, f, "d", "a", "uvwxyz")
	must(t, f.Sync("d", "a"), f.Crash(1))
	lists(t, f, "d")
	if f.Used() != 0 {
		t.Errorf("P6.3: used %d, though the file is gone", f.Used())
	}
	filled(t, f, "d", "a", "uvwxyz")
	must(t, f.Sync("d", "a"), f.Crash(1))
	reads(t, f, "d", "a", "uvwxyz")
}

// P6.4: renames in a row, each of which lasts or not; bytes that came by one name are there by the other.
func TestCrashAmongRenames(t *testing.T) {
	for k, wanted := range []string{"a=1234 b=5", "b=1234", "b=1234 c=", "b= c=1234", "b= c=1234"} {
		f := made(t)
		must(t, f.Mkdir("d"))
		filled(t, f, "d", "a", "12")
		filled(t, f, "d", "b", "5")
		must(t, f.SyncDir("d"), f.Rename("d", "a", "b"), f.Append("d", "b", []byte("34")), f.Sync("d", "b"))
		must(t, f.Create("d", "c"), f.Rename("d", "b", "x"), f.Rename("d", "c", "b"), f.Rename("d", "x", "c"))
		// 1 lasts: the first rename; 2: c, too; 3 and 4: x is in the way.
		picks := []int{0, 1, 2, 5, 5}[k]
		must(t, f.Crash(picks, 6, 1, 1))
		s := ""
		names, _ := f.List("d")
		for _, name := range names {
			b, _ := f.Read("d", name)
			s += fmt.Sprintf(" %s=%s", name, b)
		}
		if strings.TrimSpace(s) != wanted {
			t.Errorf("P6.4: %d last: %s, not %s", picks, s, wanted)
		}
	}
}

// P6.5
func TestSpoil(t *testing.T) {
	f := made(t)
	must(t, f.Mkdir("d"))
	filled(t, f, "d", "a", "abc")
	filled(t, f, "d", "b", "abc")
	must(t, f.Sync("d", "a"), f.Append("d", "a", []byte("def")), f.SyncDir("d"))
	for _, at := range []int{-1, 6, 7, math.MinInt, math.MaxInt} {
		want(t, "P6.5: a place that is none", f.Spoil("d", "a", at, 1), api.ErrArg)
	}
	must(t, f.Spoil("d", "a", 0, 1), f.Spoil("d", "a", 5, 255), f.Spoil("d", "a", 3, 2), f.Spoil("d", "a", 3, 4), f.Spoil("d", "a", 1, 0), f.Spoil("d", "a", 2, 32), f.Spoil("d", "a", 2, 32))
	reads(t, f, "d", "a", "`bcbe\x99")
	reads(t, f, "d", "b", "abc")
	must(t, f.Create("d", "c"))
	want(t, "P6.5: a place in no bytes", f.Spoil("d", "c", 0, 1), api.ErrArg)
	if f.Steps() != 9 || f.Used() != 9 {
		t.Errorf("P6.5: %d steps, used %d", f.Steps(), f.Used())
	}
	// What is spoilt is as safe as it was, and is no step.
	must(t, f.Fuse(0), f.Spoil("d", "a", 4, 1))
	want(t, "a step at the fuse 0", f.Sync("d", "a"), api.ErrDown)
	must(t, f.Spoil("d", "a", 4, 2), f.Crash(0, 2))
	lists(t, f, "d", "a", "b")
	reads(t, f, "d", "a", "`bcbf")
	if !f.On() || f.Steps() != 9 {
		t.Errorf("P6.5: on %t, %d steps", f.On(), f.Steps())
	}
}

// P6.5
func TestPlant(t *testing.T) {
	f := roomy(t, 4)
	must(t, f.Mkdir("d"), f.Mkdir("e"))
	filled(t, f, "d", "a", "abc")
	must(t, f.Create("d", "b"), f.Remove("d", "b"), f.Rename("d", "a", "c"), f.Create("e", "x"))
	steps := f.Steps()
	must(t, f.Fuse(0), f.Plant("d", "z", []byte("0123456789")))
	if f.Used() != 13 || f.Steps() != steps || !f.On() {
		t.Errorf("P6.5: used %d, %d steps, on %t", f.Used(), f.Steps(), f.On())
	}
	// What was pending in that directory lasts, without its bytes; in the other one nothing does.
	must(t, f.Crash())
	lists(t, f, "d", "c", "z")
	lists(t, f, "e")
	reads(t, f, "d", "z", "0123456789")
	reads(t, f, "d", "c", "")

	must(t, f.Fuse(0))
	want(t, "a step at the fuse 0", f.Remove("d", "z"), api.ErrDown)
	must(t, f.Plant("d", "z", []byte("uvw")), f.Plant("e", "n", nil))
	if f.Used() != 3 || f.On() {
		t.Errorf("P6.5: used %d, on %t", f.Used(), f.On())
	}
	must(t, f.Crash())
	reads(t, f, "d", "z", "uvw")
	reads(t, f, "e", "n", "")
	// In the place of a file that isn't safe, and of one that may come back.
	must(t, f.Room(99), f.Append("d", "z", []byte("xyz")), f.Remove("d", "c"), f.Plant("d", "z", []byte("new")), f.Append("d", "z", []byte("er")))
	if f.Used() != 5 {
		t.Errorf("P6.5: used %d", f.Used())
	}
	must(t, f.Crash(0, 0, 1))
	lists(t, f, "d", "z")
	reads(t, f, "d", "z", "newe")
}

// P6.5: what a crash keeps of the entries isn't changed by a plant that has an error.
func TestPlantWithAnError(t *testing.T) {
	f := made(t)
	must(t, f.Mkdir("d"), f.Create("d", "a"))
	want(t, "P6.5: too long", f.Plant("d", "b", make([]byte, 16777217)), api.ErrLong)
	want(t, "P6.5: no name", f.Plant("d", "B", nil), api.ErrName)
	want(t, "P6.5: no directory", f.Plant("e", "b", nil), api.ErrNoDir)
	must(t, f.Crash())
	lists(t, f, "d")
}

// Without power steps, Read and List answer ErrDown whatever they are asked; the others go on.
func TestWithoutPower(t *testing.T) {
	f := made(t)
	pending(t, f)
	must(t, f.Fuse(0))
	dirs, used, steps := f.Dirs(), f.Used(), f.Steps()
	want(t, "a step at the fuse 0", f.SyncDir("a"), api.ErrDown)
	for _, what := range powered {
		for _, c := range []call{{what: what, dir: "a", name: "w", to: "v"}, {what: what, dir: "new", name: "new", to: "y"}, {what: what, dir: "", name: "", to: ""}, {what: what, dir: "A", name: "w"}} {
			want(t, c.String(), c.on(f), api.ErrDown)
		}
	}
	if b, e := f.Read("a", "w"); len(b) != 0 || e != api.ErrDown {
		t.Errorf("P6.3: Read without power: %q, %d", b, e)
	}
	if l, e := f.List("a"); len(l) != 0 || e != api.ErrDown {
		t.Errorf("P6.3: List without power: %q, %d", l, e)
	}
	if !slices.Equal(f.Dirs(), dirs) || f.Used() != used || f.Steps() != steps || f.On() {
		t.Errorf("P6.3: without power: %q, used %d, %d steps, on %t", f.Dirs(), f.Used(), f.Steps(), f.On())
	}
	must(t, f.Room(0), f.Fuse(1))
	want(t, "P6.1: Room without power", f.Room(-1), api.ErrArg)
	want(t, "P6.1: Fuse without power", f.Fuse(-1), api.ErrArg)
	want(t, "P6.5: Spoil without power", f.Spoil("a", "none", 0, 1), api.ErrNoFile)
	want(t, "P6.5: Plant without power", f.Plant("none", "w", nil), api.ErrNoDir)
	must(t, f.Crash(2, 3, 0, 3, 4, 1, 2, 3))
	if f.Used() != used || f.Steps() != steps {
		t.Errorf("P6.4: all stayed, but used %d, not %d, %d steps", f.Used(), used, f.Steps())
	}
	want(t, "the room that was said without power", f.Append("a", "w", nil), api.ErrFull)
	must(t, f.Create("a", "new"), f.Create("b", "new"))
}

// A nil *FS.
func TestNil(t *testing.T) {
	var f *FS
	for _, what := range everyOne {
		for _, c := range []call{{what: what}, {what: what, dir: "d", name: "a", to: "b", n: 1, b: "x", picks: []int{1, 2}}, {what: what, dir: "D", name: "A", n: -1}} {
			want(t, "nil: "+c.String(), c.on(f), api.ErrNil)
		}
	}
	if b, _ := f.Read("d", "a"); len(b) != 0 {
		t.Errorf("nil: Read: %q", b)
	}
	if l, _ := f.List("d"); len(l) != 0 {
		t.Errorf("nil: List: %q", l)
	}
	if len(f.Dirs()) != 0 || f.Used() != 0 || f.Steps() != 0 || f.On() {
		t.Errorf("nil: %q, used %d, %d steps, on %t", f.Dirs(), f.Used(), f.Steps(), f.On())
	}
}

// P6.3: names rise byte by byte, and a shorter one is ahead.
func TestListRises(t *testing.T) {
	names := []string{".", "..", ".a", "0", "00", "09", "1", "9", "a", "a.", "a.b", "a0", "aa", "ab", "b", "z", "zz"}
	f := made(t)
	must(t, f.Mkdir("d"))
	for i := range names {
		name := names[i*7%len(names)]
		must(t, f.Create("d", name))
		if name != "d" {
			must(t, f.Mkdir(name))
		}
	}
	lists(t, f, "d", names...)
	dirs := slices.Sorted(slices.Values(append([]string{"d"}, names...)))
	if l := f.Dirs(); !slices.Equal(l, dirs) {
		t.Errorf("P6.3: Dirs: %q, not %q", l, dirs)
	}
	if _, e := f.List("none"); e != api.ErrNoDir {
		t.Errorf("P6.3: List of none: %d", e)
	}
}

// R4: what is handed in stays and isn't kept, spare room behind it too; what is told is the caller's.
func TestNothingIsShared(t *testing.T) {
	f := made(t)
	must(t, f.Mkdir("d"), f.Create("d", "a"))
	room := []byte("abcdef")
	must(t, f.Append("d", "a", room[:2]), f.Plant("d", "b", room[:3]))
	must(t, f.Append("d", "b", []byte("xyz")), f.Append("d", "a", []byte("uvw")), f.Spoil("d", "b", 0, 1))
	if string(room) != "abcdef" {
		t.Errorf("R4: bytes that were handed in became %q", room)
	}
	clear(room)
	reads(t, f, "d", "a", "abuvw")
	reads(t, f, "d", "b", "`bcxyz")
	one, _ := f.Read("d", "a")
	two, _ := f.Read("d", "a")
	_ = append(one, "more"...)
	clear(one[:cap(one)])
	must(t, f.Append("d", "a", []byte("x")), f.Spoil("d", "a", 1, 1))
	if string(two) != "abuvw" {
		t.Errorf("R4: bytes that were told became %q", two)
	}
	reads(t, f, "d", "a", "acuvwx")

	l, _ := f.List("d")
	clear(l)
	clear(f.Dirs())
	lists(t, f, "d", "a", "b")
	if l := f.Dirs(); !slices.Equal(l, []string{"d"}) {
		t.Errorf("R4: Dirs: %q", l)
	}
	picks := []int{7, 6, 5, 4}
	must(t, f.Crash(picks[:2]...))
	if !slices.Equal(picks, []int{7, 6, 5, 4}) {
		t.Errorf("R4: picks became %v", picks)
	}
}

// R6: nothing is kept between file systems.
func TestFileSystemsApart(t *testing.T) {
	one, two := made(t), made(t)
	must(t, one.Mkdir("d"), one.Create("d", "a"), one.Append("d", "a", []byte("x")), one.Fuse(0), one.Room(0))
	if s := seenOf(two); !s.same(seen{on: true}) {
		t.Errorf("R6: another file system: %v", s)
	}
	must(t, two.Mkdir("d"), two.Mkdir("e"), two.Create("d", "a"), two.Append("d", "a", []byte("yz")))
	reads(t, one, "d", "a", "x")
	reads(t, two, "d", "a", "yz")
}

// A dice answers numbers by a rule without chance.
type dice uint64

func (d *dice) below(n int) int {
	*d = *d*6364136223846793005 + 1442695040888963407
	return int(uint64(*d) >> 33 % uint64(n))
}

func (d *dice) oneOf(l ...string) string { return l[d.below(len(l))] }

// picks answers some picks, great ones and ones below 0 among them.
func (d *dice) picks() []int {
	var l []int
	for range d.below(12) {
		l = append(l, []int{d.below(4), d.below(1000), -1 - d.below(1000), math.MaxInt - d.below(9), math.MinInt + d.below(9)}[d.below(5)])
	}
	return l
}

// call answers some call; most are steps that may be OK.
func (d *dice) call() call {
	c := call{dir: d.oneOf("a", "b", "a", "b", "c", "C"), name: d.oneOf("m", "n", "o", "m", "n", "o", "p", ""), to: d.oneOf("m", "n", "o", "m", "n", "o", "p", "P")}
	c.what = d.oneOf("Mkdir", "Create", "Create", "Create", "Append", "Append", "Append", "Append", "Sync", "Sync", "SyncDir", "Rename", "Rename", "Rename", "Remove", "Read", "List", "Room", "Fuse", "Crash", "Spoil", "Plant")
	c.b, c.turn = "0123456789abcdef"[d.below(8):][:d.below(9)], byte(d.below(256))
	switch c.what {
	case "Room":
		c.n = d.below(42) - 1
	case "Fuse":
		c.n = d.below(25) - 1
	case "Spoil":
		c.n = d.below(9) - 1
	case "Crash":
		c.picks = d.picks()
	}
	return c
}

// P6.1 to P6.5: many calls, each one's answer and all that is told behind it.
func TestManyCalls(t *testing.T) {
	for seed := range 400 {
		d := dice(seed)
		l := []call{{what: "Mkdir", dir: "a"}, {what: "Mkdir", dir: "b"}}
		for range 150 {
			l = append(l, d.call())
		}
		agree(t, 20+seed%20, l...)
	}
}

// P6.1 to P6.5: all orders of a few calls on two names, with a crash by some picks behind them.
func TestFewCallsInAllOrders(t *testing.T) {
	few := []call{
		{what: "Create", dir: "d", name: "a"}, {what: "Create", dir: "d", name: "b"}, {what: "Append", dir: "d", name: "a", b: "xy"}, {what: "Sync", dir: "d", name: "a"},
		{what: "SyncDir", dir: "d"}, {what: "Rename", dir: "d", name: "a", to: "b"}, {what: "Rename", dir: "d", name: "b", to: "a"}, {what: "Remove", dir: "d", name: "a"},
	}
	first := []call{{what: "Mkdir", dir: "d"}, {what: "Plant", dir: "d", name: "a", b: "p"}}
	var orders func(l []call, more int)
	orders = func(l []call, more int) {
		if more == 0 {
			for k := range 4 {
				agree(t, 9, append(slices.Clone(l), call{what: "Crash", picks: []int{k, k/2 + 1, k % 2}})...)
			}
			return
		}
		for _, c := range few {
			orders(append(slices.Clone(l), c), more-1)
		}
	}
	orders(first, 4)
}

// entriesOf answers the names of a directory's entries, and what each has.
func entriesOf(t *testing.T, f *FS, dir string) map[string]string {
	t.Helper()
	names, e := f.List(dir)
	must(t, e)
	m := map[string]string{}
	for _, name := range names {
		b, e := f.Read(dir, name)
		must(t, e)
		m[name] = string(b)
	}
	return m
}

// P6.6: wherever the power goes, and whatever is kept, a file that is written beside and renamed is the elder or the newer one.
func TestRenamesAreWhole(t *testing.T) {
	replace := func(f *FS) bool {
		for _, do := range []func() api.Errno{
			func() api.Errno { return f.Create("d", "new") },
			func() api.Errno { return f.Append("d", "new", []byte("newer")) },
			func() api.Errno { return f.Sync("d", "new") },
			func() api.Errno { return f.Rename("d", "new", "file") },
			func() api.Errno { return f.SyncDir("d") },
		} {
			if do() != api.OK {
				return false
			}
		}
		return true
	}
	seen := map[string]int{}
	for fuse := range 6 {
		for ops := range 4 {
			for kept := range 7 {
				f := made(t)
				must(t, f.Mkdir("d"), f.Plant("d", "file", []byte("elder")), f.Fuse(fuse))
				whole := replace(f)
				must(t, f.Crash(ops, kept, kept))
				m := entriesOf(t, f, "d")
				if file := m["file"]; file != "newer" && (file != "elder" || whole) {
					t.Fatalf("P6.6: fuse %d, picks %d, %d: %v", fuse, ops, kept, m)
				}
				if m["file"] == "newer" && len(m) != 1 || !strings.HasPrefix("newer", m["new"]) {
					t.Fatalf("P6.6: fuse %d, picks %d, %d: %v", fuse, ops, kept, m)
				}
				seen[m["file"]]++
			}
		}
	}
	if seen["elder"] == 0 || seen["newer"] == 0 {
		t.Errorf("P6.6: %v", seen)
	}
}

// A file's story: which bytes are safe, and which have been behind them.
type story struct{ safe, all string }

// P6.6: behind a crash there are the entries of a moment since SyncDir, and of each file its safe bytes and some behind them.
func TestWhatStays(t *testing.T) {
	for seed := range 300 {
		d := dice(seed)
		f := made(t)
		must(t, f.Mkdir("d"))
		now := map[string]*story{}
		moments := []map[string]*story{{}}
		must(t, f.Fuse(d.below(60)))
		for f.On() {
			name, to := d.oneOf("a", "b", "c"), d.oneOf("a", "b", "c")
			b := fmt.Sprint(d.below(1000))
			switch d.below(6) {
			case 0:
				if f.Create("d", name) == api.OK {
					now[name] = &story{}
				}
			case 1:
				if f.Append("d", name, []byte(b)) == api.OK {
					now[name].all += b
				}
			case 2:
				if f.Sync("d", name) == api.OK {
					now[name].safe = now[name].all
				}
			case 3:
				if d.below(3) == 0 && f.SyncDir("d") == api.OK {
					moments = nil
				}
			case 4:
				if f.Rename("d", name, to) == api.OK {
					x := now[name]
					delete(now, name)
					now[to] = x
				}
			case 5:
				if f.Remove("d", name) == api.OK {
					delete(now, name)
				}
			}
			moment := map[string]*story{}
			for name, x := range now {
				moment[name] = x
			}
			moments = append(moments, moment)
		}
		must(t, f.Crash(d.picks()...))
		m := entriesOf(t, f, "d")
		if !slices.ContainsFunc(moments, func(moment map[string]*story) bool { return fits(m, moment) }) {
			t.Fatalf("P6.6: seed %d: %v is of no moment", seed, m)
		}
	}
}

// fits answers whether entries may be what stays of a moment's.
func fits(m map[string]string, moment map[string]*story) bool {
	for name, x := range moment {
		s, ok := m[name]
		if !ok || !strings.HasPrefix(s, x.safe) || !strings.HasPrefix(x.all, s) {
			return false
		}
	}
	return len(m) == len(moment)
}
