package source

import (
	"fmt"
	"maps"
	"slices"
	"strings"
	"testing"

	"headgate/api"
	"headgate/frame"
	"headgate/place"
	"headgate/segment"
	"headgate/simfs"
)

// A plainSource is logs, of which all is asked anew by the chapter's words.
type plainSource struct {
	logs []*segment.Log
}

// plainOpen does what the chapter's words say of Open.
func plainOpen(f *simfs.FS, parts, size int) (*plainSource, api.Errno) {
	s := &plainSource{}
	for _, dir := range []string{"p0", "p1", "p2", "p3"}[:parts] {
		log, e := segment.Open(f, dir, size)
		if e != api.OK {
			return nil, e
		}
		s.logs = append(s.logs, log)
	}
	return s, api.OK
}

// Append does what the chapter's words say.
func (s *plainSource) Append(part int, b string) (int64, api.Errno) {
	for i, log := range s.logs {
		if i == part {
			return log.Append([]byte(b))
		}
	}
	return 0, api.ErrPart
}

// Sync does what the chapter's words say.
func (s *plainSource) Sync(part int) api.Errno {
	for i, log := range s.logs {
		if i == part {
			return log.Sync()
		}
	}
	return api.ErrPart
}

// ends answers how many records of each log are durable.
func (s *plainSource) ends() []int64 {
	var l []int64
	for _, log := range s.logs {
		l = append(l, log.Durable())
	}
	return l
}

// wrong answers what the chapter's words say of ranges that are none of this source.
func (s *plainSource) wrong(l []api.Range) api.Errno {
	if len(l) != len(s.logs) {
		return api.ErrOffs
	}
	for _, r := range l {
		if r.From < 0 || r.From > r.To || r.To > 1<<40 {
			return api.ErrOffs
		}
	}
	for i, r := range l {
		if r.To > s.logs[i].Durable() {
			return api.ErrRange
		}
	}
	return api.OK
}

// Plan does what the chapter's words say.
func (s *plainSource) Plan(was []api.Range, most int) ([]api.Range, api.Errno) {
	if most < 1 || most > 1024 {
		return nil, api.ErrArg
	}
	if e := s.wrong(was); e != api.OK {
		return nil, e
	}
	var heaps []int64
	for i, end := range s.ends() {
		heaps = append(heaps, end-was[i].To)
	}
	var l []api.Range
	for i, n := range plainDeal(heaps, int64(most)) {
		l = append(l, span(was[i].To, was[i].To+n))
	}
	return l, api.OK
}

// Read does what the chapter's words say, and tells the records as texts.
func (s *plainSource) Read(l []api.Range) ([]string, api.Errno) {
	if e := s.wrong(l); e != api.OK {
		return nil, e
	}
	var all []string
	for part, r := range l {
		records, e := s.logs[part].Read(r.From, r.To)
		if e != api.OK {
			return nil, e
		}
		for i, b := range records {
			all = append(all, placed(part, r.From+int64(i), string(b)))
		}
	}
	return all, api.OK
}

// span answers the range from from to to.
func span(from, to int64) api.Range { return api.Range{From: from, To: to} }

// placed answers a record, and where it stands, as a text.
func placed(part int, at int64, b string) string { return fmt.Sprintf("%d %d %q", part, at, b) }

// read answers what Read tells, as texts.
func read(s *Source, l []api.Range) ([]string, api.Errno) {
	var texts []string
	records, e := s.Read(l)
	for _, r := range records {
		texts = append(texts, placed(r.Part, r.At, string(r.B)))
	}
	return texts, e
}

// A seen is all that is to be seen of a file system.
type seen struct {
	on          bool
	steps, used int
	files       map[string]string
}

func seenOf(f *simfs.FS) seen {
	s := seen{f.On(), f.Steps(), f.Used(), map[string]string{}}
	for _, dir := range f.Dirs() {
		s.files[dir] = "a directory"
		names, _ := f.List(dir)
		for _, name := range names {
			b, _ := f.Read(dir, name)
			s.files[dir+"/"+name] = string(b)
		}
	}
	return s
}

func (s seen) same(t seen) bool {
	return s.on == t.on && s.steps == t.steps && s.used == t.used && maps.Equal(s.files, t.files)
}

// A scene is the bytes of the files that stand there ahead of all calls, by directories and names.
type scene struct {
	what  string
	files map[string]map[string]string
}

// made answers a file system of its own as s says.
func (s scene) made(t *testing.T) *simfs.FS {
	t.Helper()
	f, e := simfs.New(1 << 30)
	must(t, e)
	for _, dir := range slices.Sorted(maps.Keys(s.files)) {
		must(t, f.Mkdir(dir))
		for _, name := range slices.Sorted(maps.Keys(s.files[dir])) {
			must(t, f.Plant(dir, name, []byte(s.files[dir][name])))
		}
	}
	return f
}

// frames answers the bytes of a segment of these records.
func frames(records ...string) string {
	s := ""
	for _, r := range records {
		b, e := frame.Pack([]byte(r))
		if e != api.OK {
			panic(fmt.Sprintf("Pack: %d", e))
		}
		s += string(b)
	}
	return s
}

// segmentName answers the name of the segment of the number n.
func segmentName(n int64) string { return "s." + place.Hex(n) }

// segments answers a directory of segments, each of the records of one row, from the number 0 on.
func segments(rows ...[]string) map[string]string {
	files := map[string]string{}
	n := int64(0)
	for _, row := range rows {
		files[segmentName(n)] = frames(row...)
		n += int64(len(row))
	}
	return files
}

// partitions answers directories of four partitions without a fault, of 3, 1, no and 6 records.
func partitions() map[string]map[string]string {
	return map[string]map[string]string{
		"p0": segments([]string{"a", "bb"}, []string{"c"}),
		"p1": segments([]string{"d"}),
		"p2": segments(),
		"p3": segments([]string{"e", "", "f"}, []string{"g"}, []string{"h", "iii"}),
	}
}

// but answers partitions, after something was done with them.
func but(do func(dirs map[string]map[string]string)) map[string]map[string]string {
	dirs := partitions()
	do(dirs)
	return dirs
}

// scenes answers partitions with faults and without.
func scenes() []scene {
	return []scene{
		{"nothing", nil},
		{"four partitions", partitions()},
		{"what others laid", but(func(dirs map[string]map[string]string) {
			clear(dirs)
			for _, dir := range []string{"p", "p00", "p4", "p5", "p0.", "q0", "0"} {
				dirs[dir] = segments([]string{"of", "others"})
				dirs[dir]["tmp.b"] = "begun"
			}
		})},
		{"two without a directory", but(func(dirs map[string]map[string]string) {
			delete(dirs, "p0")
			delete(dirs, "p2")
		})},
		{"begun ones", but(func(dirs map[string]map[string]string) {
			for _, files := range dirs {
				files["tmp."+segmentName(0)] = "begun"
			}
		})},
		{"bytes behind, and a gap", but(func(dirs map[string]map[string]string) {
			dirs["p0"][segmentName(0)] = frames("a") + "behind"
			dirs["p1"][segmentName(0)] += "behind"
			dirs["p3"][segmentName(5)] = frames("j")
		})},
		{"one cut off", but(func(dirs map[string]map[string]string) {
			dirs["p3"][segmentName(4)] = strings.TrimSuffix(dirs["p3"][segmentName(4)], "i")
		})},
	}
}
