package place

import (
	"encoding/binary"
	"fmt"
	"hash/crc32"
	"maps"
	"slices"
	"testing"

	"headgate/api"
	"headgate/simfs"
)

// plainFrame answers what chapter 5 makes of b.
func plainFrame(b []byte) []byte {
	f := binary.BigEndian.AppendUint32(nil, uint32(len(b)))
	f = binary.BigEndian.AppendUint32(f, crc32.Checksum(slices.Concat(f, b), crc32.MakeTable(crc32.Castagnoli)))
	return append(f, b...)
}

// plainRaw does what the chapter's words say of Raw, one call behind the other.
func plainRaw(f *simfs.FS, dir, name string, b []byte) api.Errno {
	if f == nil {
		return api.ErrNil
	}
	if len(name) > 28 {
		return api.ErrName
	}
	l, e := f.List(dir)
	if e != api.OK {
		return e
	}
	for _, x := range l {
		if x != "tmp."+name {
			continue
		}
		if e := f.Remove(dir, x); e != api.OK {
			return e
		}
	}
	if e := f.Create(dir, "tmp."+name); e != api.OK {
		return e
	}
	if e := f.Append(dir, "tmp."+name, b); e != api.OK {
		return e
	}
	if e := f.Sync(dir, "tmp."+name); e != api.OK {
		return e
	}
	if e := f.Rename(dir, "tmp."+name, name); e != api.OK {
		return e
	}
	return f.SyncDir(dir)
}

// plainPut does what the chapter's words say of Put.
func plainPut(f *simfs.FS, dir, name string, b []byte) api.Errno {
	if f == nil {
		return api.ErrNil
	}
	if len(b) > 16777216-8 {
		return api.ErrFrameLong
	}
	return plainRaw(f, dir, name, plainFrame(b))
}

// plainClean does what the chapter's words say of Clean.
func plainClean(f *simfs.FS, dir string) (int, api.Errno) {
	l, e := f.List(dir)
	if e != api.OK {
		return 0, e
	}
	n := 0
	for _, x := range l {
		if len(x) < 4 || x[:4] != "tmp." {
			continue
		}
		if e := f.Remove(dir, x); e != api.OK {
			return 0, e
		}
		n++
	}
	if n > 0 {
		e = f.SyncDir(dir)
	}
	if e != api.OK {
		return 0, e
	}
	return n, api.OK
}

// plainReady does what the chapter's words say of Ready.
func plainReady(f *simfs.FS, dir string) ([]string, api.Errno) {
	_, e := f.List(dir)
	if e == api.ErrNoDir {
		e = f.Mkdir(dir)
	}
	if e != api.OK {
		return nil, e
	}
	if _, e := plainClean(f, dir); e != api.OK {
		return nil, e
	}
	return f.List(dir)
}

// A seen is all that is to be seen of a file system.
type seen struct {
	on          bool
	steps, used int
	dirs        []string
	files       map[string]string
}

func seenOf(f *simfs.FS) seen {
	s := seen{on: f.On(), steps: f.Steps(), used: f.Used(), dirs: f.Dirs(), files: map[string]string{}}
	for _, dir := range s.dirs {
		names, _ := f.List(dir)
		for _, name := range names {
			b, _ := f.Read(dir, name)
			s.files[dir+"/"+name] = string(b)
		}
	}
	return s
}

func (s seen) same(t seen) bool {
	return s.on == t.on && s.steps == t.steps && s.used == t.used && slices.Equal(s.dirs, t.dirs) && maps.Equal(s.files, t.files)
}

// A scene is how a file system came to be as it is ahead of a call.
type scene struct {
	what string
	set  func(t *testing.T, f *simfs.FS)
}

// made answers a file system of its own as s says.
func (s scene) made(t *testing.T) *simfs.FS {
	t.Helper()
	f := roomy(t, 1<<30)
	s.set(t, f)
	return f
}

// scenes answers ways that a directory may be in: with and without an elder a, with a tmp.a that lasts, doesn't last or
// is to go, and with what somebody else did.
func scenes() []scene {
	return []scene{
		{"no directory", func(t *testing.T, f *simfs.FS) {}},
		{"nothing there", func(t *testing.T, f *simfs.FS) { must(t, f.Mkdir("d")) }},
		{"an elder a", elder},
		{"an elder a of no bytes", func(t *testing.T, f *simfs.FS) {
			must(t, f.Mkdir("d"), plainPut(f, "d", "a", nil))
		}},
		{"a begun tmp.a", func(t *testing.T, f *simfs.FS) {
			must(t, f.Mkdir("d"))
			filled(t, f, "d", "tmp.a", "begun")
		}},
		{"an elder a and a begun tmp.a", func(t *testing.T, f *simfs.FS) {
			elder(t, f)
			filled(t, f, "d", "tmp.a", "begun")
		}},
		{"an elder a and a tmp.a that lasts", func(t *testing.T, f *simfs.FS) {
			elder(t, f)
			filled(t, f, "d", "tmp.a", "lasting")
			must(t, f.Sync("d", "tmp.a"), f.SyncDir("d"))
		}},
		{"an elder a and a tmp.a that was removed", func(t *testing.T, f *simfs.FS) {
			elder(t, f)
			filled(t, f, "d", "tmp.a", "gone")
			must(t, f.Sync("d", "tmp.a"), f.SyncDir("d"), f.Remove("d", "tmp.a"))
		}},
		{"an elder a, others that change, and many names", func(t *testing.T, f *simfs.FS) {
			elder(t, f)
			others(t, f)
		}},
	}
}

// elder lays a file a.
func elder(t *testing.T, f *simfs.FS) {
	t.Helper()
	must(t, f.Mkdir("d"), plainPut(f, "d", "a", []byte("old")))
}

// others lays files beside a, some of which don't last, in a's directory and in others.
func others(t *testing.T, f *simfs.FS) {
	t.Helper()
	for _, name := range []string{"tm.p", "tmp", "tmp.", "tmp.tmp.", "tmpa", "tnp.", "x.tmp.", "b", "0", "a.", "aa"} {
		filled(t, f, "d", name, "of "+name)
	}
	must(t, f.Sync("d", "b"), f.SyncDir("d"), f.Remove("d", "0"), f.Rename("d", "aa", "ab"))
	filled(t, f, "d", "tmp.z", "begun")
	for _, dir := range []string{"c", "tmp.d"} {
		must(t, f.Mkdir(dir))
		filled(t, f, dir, "tmp.a", "of "+dir)
		filled(t, f, dir, "a", "of "+dir)
	}
}

// Limits that are laid on a call.
type limits struct {
	fuse, room int
	off        bool
}

// on lays l on f; the room is how much more is to be used.
func (l limits) on(t *testing.T, f *simfs.FS) {
	t.Helper()
	if l.room >= 0 {
		must(t, f.Room(f.Used()+l.room))
	}
	if l.fuse >= 0 {
		must(t, f.Fuse(l.fuse))
	}
	if l.off {
		must(t, f.Fuse(0))
		want(t, "P6.1: a step without power", f.Mkdir("off"), api.ErrDown)
	}
}

func (l limits) String() string {
	return fmt.Sprintf("fuse %d, room %d, off %v", l.fuse, l.room, l.off)
}

// manyLimits answers fuses of each length that may matter, rooms at both sides of what frames need, and both at once.
func manyLimits() []limits {
	l := []limits{{-1, -1, false}, {-1, -1, true}}
	for n := range 9 {
		l = append(l, limits{n, -1, false}, limits{n, 2 * n, false})
	}
	for _, room := range []int{0, 1, 7, 8, 9, 10, 11, 18, 19, 47, 48} {
		l = append(l, limits{-1, room, false})
	}
	return l
}

// manyPicks answers what crashes may keep: of the directories' operations some, of the files' bytes others.
func manyPicks() [][]int {
	l := [][]int{nil}
	for k := range 6 {
		for _, j := range []int{0, 1, 9, 11} {
			l = append(l, []int{k, j, j, j, j, j, j}, []int{k, k, k, j, j + 1, j, j + 1, j})
		}
	}
	return l
}

// agree does a call on a file system, and what the chapter's words make of it on one alike, and holds both against each
// other, at once and behind crashes.
func agree(t *testing.T, what string, do, plain func(*simfs.FS) string) {
	t.Helper()
	for _, s := range scenes() {
		for _, l := range manyLimits() {
			for i, picks := range manyPicks() {
				f, p := s.made(t), s.made(t)
				l.on(t, f)
				l.on(t, p)
				got, wanted := do(f), plain(p)
				if got != wanted || !seenOf(f).same(seenOf(p)) {
					t.Fatalf("%s, %s, %v: %s, not %s\n%v, not\n%v", what, s.what, l, got, wanted, seenOf(f), seenOf(p))
				}
				must(t, f.Crash(picks...), p.Crash(picks...))
				if !seenOf(f).same(seenOf(p)) {
					t.Fatalf("%s, %s, %v, crash %d %v:\n%v, not\n%v", what, s.what, l, i, picks, seenOf(f), seenOf(p))
				}
			}
		}
	}
}
