package segment

import (
	"encoding/binary"
	"fmt"
	"hash/crc32"
	"maps"
	"slices"
	"strings"
	"testing"

	"headgate/api"
	"headgate/simfs"
)

// plainName answers the name of the segment of the number n.
func plainName(n int) string { return fmt.Sprintf("s.%016x", uint64(n)) }

// plainNumber answers the number of a segment, and whether the name is one's.
func plainNumber(name string) (int, bool) {
	var n uint64
	digits, ok := strings.CutPrefix(name, "s.")
	if _, err := fmt.Sscanf(digits, "%x", &n); !ok || err != nil || n >= 1<<63 || plainName(int(n)) != name {
		return 0, false
	}
	return int(n), true
}

// plainFrames answers the frames of records, one behind the other.
func plainFrames(records ...string) []byte {
	var b []byte
	for _, r := range records {
		f := binary.BigEndian.AppendUint32(nil, uint32(len(r)))
		sum := crc32.Checksum(append(slices.Clone(f), r...), crc32.MakeTable(crc32.Castagnoli))
		b = append(append(b, binary.BigEndian.AppendUint32(f, sum)...), r...)
	}
	return b
}

// plainGood answers the records of the good frames with which b begins.
func plainGood(b []byte) []string {
	var l []string
	for len(b) >= 8 {
		n := int(binary.BigEndian.Uint32(b))
		if n > 1024 || 8+n > len(b) || string(plainFrames(string(b[8:8+n]))) != string(b[:8+n]) {
			break
		}
		l, b = append(l, string(b[8:8+n])), b[8+n:]
	}
	return l
}

// A plainLog keeps but how many records last: it reads the files anew, whatever is asked.
type plainLog struct {
	f       *simfs.FS
	size    int
	durable int64
}

// inTurn does steps till one fails.
func inTurn(steps ...func() api.Errno) api.Errno {
	for _, step := range steps {
		if e := step(); e != api.OK {
			return e
		}
	}
	return api.OK
}

// removeAll removes files, and does SyncDir, if there was one.
func (l *plainLog) removeAll(names []string) api.Errno {
	for _, name := range names {
		if e := l.f.Remove("d", name); e != api.OK {
			return e
		}
	}
	if len(names) == 0 {
		return api.OK
	}
	return l.f.SyncDir("d")
}

// raw does what chapter 7 says of Raw, where no tmp. is left.
func (l *plainLog) raw(name string, b []byte) api.Errno {
	t := "tmp." + name
	return inTurn(
		func() api.Errno { return l.f.Create("d", t) },
		func() api.Errno { return l.f.Append("d", t, b) },
		func() api.Errno { return l.f.Sync("d", t) },
		func() api.Errno { return l.f.Rename("d", t, name) },
		func() api.Errno { return l.f.SyncDir("d") },
	)
}

// ready does what chapter 7 says of Ready.
func (l *plainLog) ready() api.Errno {
	names, e := l.f.List("d")
	if e == api.ErrNoDir {
		return l.f.Mkdir("d")
	}
	if e != api.OK {
		return e
	}
	return l.removeAll(slices.DeleteFunc(names, func(s string) bool { return !strings.HasPrefix(s, "tmp.") }))
}

// segments answers the names of the segments, rising.
func (l *plainLog) segments() []string {
	names, e := l.f.List("d")
	if e != api.OK {
		panic(fmt.Sprintf("List: %d", e))
	}
	return slices.DeleteFunc(names, func(s string) bool {
		_, ok := plainNumber(s)
		return !ok
	})
}

// read answers the bytes of a file that is there.
func (l *plainLog) read(name string) []byte {
	b, e := l.f.Read("d", name)
	if e != api.OK {
		panic(fmt.Sprintf("Read of %s: %d", name, e))
	}
	return b
}

// records answers all records.
func (l *plainLog) records() []string {
	var all []string
	for _, name := range l.segments() {
		all = append(all, plainGood(l.read(name))...)
	}
	return all
}

// plainOpen does what the chapter's words say of Open.
func plainOpen(f *simfs.FS, size int) (*plainLog, api.Errno) {
	l := &plainLog{f: f, size: size}
	if e := l.ready(); e != api.OK {
		return nil, e
	}
	if e := l.mend(); e != api.OK {
		return nil, e
	}
	if e := l.Sync(); e != api.OK {
		return nil, e
	}
	return l, api.OK
}

// mend lets the segments be as a log's are.
func (l *plainLog) mend() api.Errno {
	next := 0
	names := l.segments()
	for i, name := range names {
		if n, _ := plainNumber(name); n != next {
			return l.removeAll(names[i:])
		}
		b := l.read(name)
		records := plainGood(b)
		if keep := plainFrames(records...); len(keep) < len(b) {
			return inTurn(
				func() api.Errno { return l.raw(name, keep) },
				func() api.Errno { return l.removeAll(names[i+1:]) },
			)
		}
		next += len(records)
	}
	return api.OK
}

// Append does what the chapter's words say.
func (l *plainLog) Append(b string) (int64, api.Errno) {
	if len(b) > 1024 {
		return 0, api.ErrBig
	}
	n := len(l.records())
	names := l.segments()
	if len(names) == 0 || len(l.read(names[len(names)-1])) >= l.size {
		e := inTurn(
			func() api.Errno { return l.syncLast(names) },
			func() api.Errno { return l.f.Create("d", plainName(n)) },
			func() api.Errno { return l.f.SyncDir("d") },
		)
		if e != api.OK {
			return 0, e
		}
		l.durable, names = int64(n), l.segments()
	}
	if e := l.f.Append("d", names[len(names)-1], plainFrames(b)); e != api.OK {
		return 0, e
	}
	return int64(n), api.OK
}

// syncLast does Sync of the last one of these segments, if there is one.
func (l *plainLog) syncLast(names []string) api.Errno {
	if len(names) == 0 {
		return api.OK
	}
	return l.f.Sync("d", names[len(names)-1])
}

// Sync does what the chapter's words say.
func (l *plainLog) Sync() api.Errno {
	e := l.syncLast(l.segments())
	if e == api.OK {
		l.durable = int64(len(l.records()))
	}
	return e
}

// A seen is all that is to be seen of a file system.
type seen struct {
	on          bool
	steps, used int
	files       map[string]string
}

func seenOf(f *simfs.FS) seen {
	s := seen{f.On(), f.Steps(), f.Used(), map[string]string{}}
	for _, dir := range f.Dirs() {
		s.files[dir] = "a directory"
		names, _ := f.List(dir)
		for _, name := range names {
			b, _ := f.Read(dir, name)
			s.files[dir+"/"+name] = string(b)
		}
	}
	return s
}

func (s seen) same(t seen) bool {
	return s.on == t.on && s.steps == t.steps && s.used == t.used && maps.Equal(s.files, t.files)
}

// A scene is the bytes of the files that the directory d has ahead of all calls, and whether there is one.
type scene struct {
	what  string
	files map[string][]byte
}

// made answers a file system of its own as s says.
func (s scene) made(t *testing.T) *simfs.FS {
	t.Helper()
	f, e := simfs.New(1 << 30)
	must(t, e)
	if s.files == nil {
		return f
	}
	must(t, f.Mkdir("d"))
	for _, name := range slices.Sorted(maps.Keys(s.files)) {
		must(t, f.Plant("d", name, s.files[name]))
	}
	return f
}

// segmentsOf answers files that are segments, by their first numbers.
func segmentsOf(m map[int][]byte) map[string][]byte {
	files := map[string][]byte{}
	for n, b := range m {
		files[plainName(n)] = b
	}
	return files
}

// whole answers three segments without a fault, of five records.
func whole() map[int][]byte {
	return map[int][]byte{0: plainFrames("a", "bb"), 2: plainFrames("", "dd"), 4: plainFrames("e")}
}

// but answers whole, with the segment n of these bytes.
func but(n int, b []byte) map[string][]byte {
	m := whole()
	m[n] = b
	return segmentsOf(m)
}

// scenes answers directories with faults and without.
func scenes() []scene {
	first, second, third := whole()[0], whole()[2], whole()[4]
	behind := []byte("behind")
	big := plainFrames(strings.Repeat("b", 1025))
	gap := segmentsOf(map[int][]byte{0: first, 3: second, 5: third})
	return []scene{
		{"no directory", nil},
		{"no file", map[string][]byte{}},
		{"what others laid", others()},
		{"whole segments", segmentsOf(whole())},
		{"whole segments, and what others laid", withOthers(segmentsOf(whole()))},
		{"a last one of nothing", segmentsOf(map[int][]byte{0: first, 2: nil})},
		{"one of nothing", segmentsOf(map[int][]byte{0: nil})},
		{"one of nothing, and more behind it", segmentsOf(map[int][]byte{0: nil, 1: first, 3: second})},
		{"nothing in the middle", but(2, nil)},
		{"a last one that is cut off", but(4, third[:8])},
		{"a last one with bytes behind", but(4, slices.Concat(third, behind))},
		{"a middle one that is cut off", but(2, second[:len(second)-1])},
		{"a middle one with bytes behind", but(2, slices.Concat(second, behind))},
		{"a first one with bytes behind", but(0, slices.Concat(first, behind))},
		{"a first one of nothing good", but(0, behind)},
		{"a great frame in the middle", but(2, slices.Concat(second[:8], big, second[8:]))},
		{"a great frame behind", withOthers(but(4, slices.Concat(third, big)))},
		{"a gap", gap},
		{"a gap, and what others laid", withOthers(gap)},
		{"one record too many", but(2, slices.Concat(second, third))},
		{"one record too few", but(0, first[:9])},
		{"no first one", segmentsOf(map[int][]byte{1: first, 3: second})},
		{"no first one, but the greatest number", segmentsOf(map[int][]byte{1<<63 - 1: first})},
	}
}

// others answers files whose names are no segment's, begun ones among them.
func others() map[string][]byte {
	files := map[string][]byte{}
	for _, name := range []string{
		"s.", "s", "s.0", "s." + plainName(0), "s.0" + plainName(0)[2:], plainName(2) + "0", plainName(2) + ".", plainName(0)[2:],
		plainName(2)[:17], plainName(-1), "s.800000000000000a", "s.000000000000000g", "s..00000000000000", "s.000000000000000.",
		"a." + plainName(0)[2:], "b." + plainName(2)[2:], "t." + plainName(0)[2:], "ss." + plainName(0)[2:], "." + plainName(0), "s0" + plainName(0)[2:],
	} {
		files[name] = []byte("of others")
	}
	files["tmp."+plainName(0)] = plainFrames("begun")
	files["tmp."+plainName(2)] = []byte("begun")
	return files
}

// withOthers answers files, and beside them what others laid.
func withOthers(files map[string][]byte) map[string][]byte {
	maps.Copy(files, others())
	return files
}
