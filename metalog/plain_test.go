package metalog

import (
	"encoding/binary"
	"fmt"
	"hash/crc32"
	"maps"
	"slices"
	"strings"
	"testing"

	"headgate/api"
	"headgate/simfs"
)

// plainHex answers what chapter 7 says of Hex.
func plainHex(n int64) string { return fmt.Sprintf("%016x", uint64(n)) }

// plainNumber answers the number behind mark in a name, and whether it stands there and there is one.
func plainNumber(name, mark string) (int64, bool) {
	var n uint64
	digits, ok := strings.CutPrefix(name, mark)
	if _, err := fmt.Sscanf(digits, "%x", &n); !ok || err != nil || n >= 1<<63 || plainHex(int64(n)) != digits {
		return 0, false
	}
	return int64(n), true
}

// plainFrame answers what chapter 5 makes of b.
func plainFrame(b string) []byte {
	f := binary.BigEndian.AppendUint32(nil, uint32(len(b)))
	f = binary.BigEndian.AppendUint32(f, crc32.Checksum(append(slices.Clone(f), b...), crc32.MakeTable(crc32.Castagnoli)))
	return append(f, b...)
}

// plainPairs answers what chapter 4 makes of entries.
func plainPairs(m map[int64]string) string {
	b := binary.AppendUvarint(nil, uint64(len(m)))
	for _, id := range slices.Sorted(maps.Keys(m)) {
		b = append(b, plainPair(plainHex(id), m[id])...)
	}
	return string(b)
}

func plainPair(key, val string) string {
	b := append(binary.AppendUvarint(nil, uint64(len(key))), key...)
	return string(append(binary.AppendUvarint(b, uint64(len(val))), val...))
}

// plainUnpairs answers of which entries these are the bytes, which plainPairs wrote.
func plainUnpairs(s string) map[int64]string {
	m := map[int64]string{}
	n, size := binary.Uvarint([]byte(s))
	s = s[size:]
	for range n {
		id, _ := plainNumber(s[1:17], "")
		length, size := binary.Uvarint([]byte(s[17:]))
		s = s[17+size:]
		m[id] = s[:length]
		s = s[length:]
	}
	return m
}

// plainPut does what chapter 7 says of Put, of a name and bytes that are short enough.
func plainPut(f *simfs.FS, dir, name, b string) api.Errno {
	names, _ := f.List(dir)
	if slices.Contains(names, "tmp."+name) {
		if e := f.Remove(dir, "tmp."+name); e != api.OK {
			return e
		}
	}
	for _, step := range []func() api.Errno{
		func() api.Errno { return f.Create(dir, "tmp."+name) },
		func() api.Errno { return f.Append(dir, "tmp."+name, plainFrame(b)) },
		func() api.Errno { return f.Sync(dir, "tmp."+name) },
		func() api.Errno { return f.Rename(dir, "tmp."+name, name) },
		func() api.Errno { return f.SyncDir(dir) },
	} {
		if e := step(); e != api.OK {
			return e
		}
	}
	return api.OK
}

// A plainLog keeps nothing: it reads the files anew, whatever is asked.
type plainLog struct {
	f   *simfs.FS
	dir string
}

// plainOpen does the steps of Ready; what is wrong with the files is for the tests to know.
func plainOpen(f *simfs.FS, dir string) (*plainLog, api.Errno) {
	_, e := f.List(dir)
	if e == api.ErrNoDir {
		e = f.Mkdir(dir)
	}
	if e != api.OK {
		return nil, e
	}
	l := &plainLog{f, dir}
	return l, l.removeAll(func(name string) bool { return strings.HasPrefix(name, "tmp.") })
}

// removeAll removes the files whose names go.
func (l *plainLog) removeAll(goes func(string) bool) api.Errno {
	any := false
	names, _ := l.f.List(l.dir)
	for _, name := range names {
		if !goes(name) {
			continue
		}
		any = true
		if e := l.f.Remove(l.dir, name); e != api.OK {
			return e
		}
	}
	if !any {
		return api.OK
	}
	return l.f.SyncDir(l.dir)
}

// read answers the bytes of which a file is the frame.
func (l *plainLog) read(name string) string {
	b, e := l.f.Read(l.dir, name)
	if e != api.OK || len(b) < 8 {
		panic(fmt.Sprintf("%s: %q, %d", name, b, e))
	}
	return string(b[8:])
}

// ids answers the numbers that stand behind mark in the names, rising.
func (l *plainLog) ids(mark string) []int64 {
	var ids []int64
	names, e := l.f.List(l.dir)
	if e != api.OK {
		panic(fmt.Sprintf("List: %d", e))
	}
	for _, name := range names {
		if id, ok := plainNumber(name, mark); ok {
			ids = append(ids, id)
		}
	}
	slices.Sort(ids)
	return ids
}

// entries answers the greatest fold's, and the singles.
func (l *plainLog) entries() map[int64]string {
	m := map[int64]string{}
	for _, id := range l.ids("b.") {
		m[id] = l.read("b." + plainHex(id))
	}
	if folds := l.ids("f."); len(folds) > 0 {
		maps.Copy(m, plainUnpairs(l.read("f."+plainHex(slices.Max(folds)))))
	}
	return m
}

// Put does what the chapter's words say.
func (l *plainLog) Put(id int64, b string) api.Errno {
	was, ok := l.entries()[id]
	switch {
	case id < 0 || id > 1<<40:
		return api.ErrArg
	case ok && was != b:
		return api.ErrClash
	case ok:
		return api.OK
	}
	return plainPut(l.f, l.dir, "b."+plainHex(id), b)
}

// Fold does what the chapter's words say.
func (l *plainLog) Fold(upto int64) api.Errno {
	m, folds, entries := upto, l.ids("f."), l.entries()
	if len(folds) > 0 {
		m = max(m, slices.Max(folds))
	}
	maps.DeleteFunc(entries, func(id int64, b string) bool { return id > m })
	if len(entries) == 0 {
		return api.ErrNone
	}
	n := slices.Max(slices.Collect(maps.Keys(entries)))
	singles := slices.ContainsFunc(l.ids("b."), func(id int64) bool { return id <= n })
	if slices.Equal(folds, []int64{n}) && !singles {
		return api.OK
	}
	if e := plainPut(l.f, l.dir, "f."+plainHex(n), plainPairs(entries)); e != api.OK {
		return e
	}
	return l.removeAll(func(name string) bool {
		single, isSingle := plainNumber(name, "b.")
		fold, isFold := plainNumber(name, "f.")
		return isSingle && single <= n || isFold && fold != n
	})
}

// Purge does what the chapter's words say.
func (l *plainLog) Purge(below int64) api.Errno {
	return l.removeAll(func(name string) bool {
		single, isSingle := plainNumber(name, "b.")
		fold, isFold := plainNumber(name, "f.")
		return isSingle && single < below || isFold && fold < below
	})
}

// A seen is all that is to be seen of a file system.
type seen struct {
	on          bool
	steps, used int
	files       map[string]string
}

func seenOf(f *simfs.FS) seen {
	s := seen{f.On(), f.Steps(), f.Used(), map[string]string{}}
	for _, dir := range f.Dirs() {
		s.files[dir] = "a directory"
		names, _ := f.List(dir)
		for _, name := range names {
			b, _ := f.Read(dir, name)
			s.files[dir+"/"+name] = string(b)
		}
	}
	return s
}

func (s seen) same(t seen) bool {
	return s.on == t.on && s.steps == t.steps && s.used == t.used && maps.Equal(s.files, t.files)
}

// A scene is how a file system came to be as it is ahead of all calls.
type scene struct {
	what string
	set  func(t *testing.T, f *simfs.FS)
}

// made answers a file system of its own as s says.
func (s scene) made(t *testing.T) *simfs.FS {
	t.Helper()
	f, e := simfs.New(1 << 30)
	must(t, e)
	s.set(t, f)
	return f
}

// lay lays singles, and folds of entries, in the directory d.
func lay(t *testing.T, f *simfs.FS, singles map[int64]string, folds ...map[int64]string) {
	t.Helper()
	for _, id := range slices.Sorted(maps.Keys(singles)) {
		must(t, plainPut(f, "d", "b."+plainHex(id), singles[id]))
	}
	for _, m := range folds {
		n := slices.Max(slices.Collect(maps.Keys(m)))
		must(t, plainPut(f, "d", "f."+plainHex(n), plainPairs(m)))
	}
}

// The entries of one fold, and of an elder and a greater one.
type entriesOf = map[int64]string

// scenes answers directories whose files are all right.
func scenes() []scene {
	return []scene{
		{"no directory", func(t *testing.T, f *simfs.FS) {}},
		{"what others laid", func(t *testing.T, f *simfs.FS) {
			must(t, f.Mkdir("d"), f.Mkdir("c"))
			others(t, f)
		}},
		{"singles", func(t *testing.T, f *simfs.FS) {
			must(t, f.Mkdir("d"))
			lay(t, f, entriesOf{0: "x", 2: "z", 3: ""})
		}},
		{"a fold, and singles of it", func(t *testing.T, f *simfs.FS) {
			must(t, f.Mkdir("d"))
			lay(t, f, entriesOf{0: "x", 1: "", 2: "z"}, entriesOf{0: "x", 1: ""})
		}},
		{"folds, singles that differ, and one that is in no fold", func(t *testing.T, f *simfs.FS) {
			must(t, f.Mkdir("d"))
			lay(t, f, entriesOf{0: "other", 1: "w", 3: "s"}, entriesOf{0: "e"}, entriesOf{0: "x", 1: "elder"}, entriesOf{0: "x", 2: "z"})
		}},
		{"an elder fold that is torn", func(t *testing.T, f *simfs.FS) {
			must(t, f.Mkdir("d"))
			lay(t, f, nil, entriesOf{1: "", 2: "z"})
			must(t, f.Plant("d", "f."+plainHex(0), []byte("junk")))
		}},
	}
}

// others lays files whose names are no single's or fold's, begun ones among them.
func others(t *testing.T, f *simfs.FS) {
	t.Helper()
	for _, name := range []string{
		"b.", "f.", "b", "f", "b.0", "b." + plainHex(1)[1:], "b.0" + plainHex(1), "f.0" + plainHex(1), "b." + plainHex(1) + ".",
		"b.000000000000000g", "f.000000000000000g", "b.000000000000000.", "b..000000000000000", "a." + plainHex(1), "c." + plainHex(0),
		"g." + plainHex(0), "bb." + plainHex(1), "b.f." + plainHex(1), plainHex(1), "." + plainHex(0), "bx" + plainHex(0), "b" + plainHex(1),
	} {
		must(t, f.Plant("d", name, []byte("of others")), f.Plant("c", name, []byte("of others")))
	}
	for _, name := range []string{"b." + plainHex(0), "f." + plainHex(1)} {
		must(t, f.Plant("d", "tmp."+name, []byte("begun")), f.Plant("c", name, []byte("of another")))
	}
}
