package source

import (
	"fmt"
	"math"
	"slices"
	"strings"
	"testing"

	"headgate/api"
	"headgate/offs"
	"headgate/simfs"
)

// wide is a size of segments that no partition here fills.
const wide = 1 << 24

// must holds that the calls that answered l were OK.
func must(t *testing.T, l ...api.Errno) {
	t.Helper()
	for i, e := range l {
		if e != api.OK {
			t.Fatalf("call %d of these: %d", i, e)
		}
	}
}

// want holds what a call answered against an error.
func want(t *testing.T, what string, e, wanted api.Errno) {
	t.Helper()
	if e != wanted {
		t.Errorf("%s: %d, not %d", what, e, wanted)
	}
}

// opened answers the source of a file system.
func opened(t *testing.T, f *simfs.FS, parts, size int) *Source {
	t.Helper()
	s, e := Open(f, parts, size)
	if s == nil || e != api.OK {
		t.Fatalf("P11.2: Open: %v, %d", s, e)
	}
	return s
}

// filled answers a file system, and a source in it that has so many records in each partition that last, and so many
// behind these in each that don't.
func filled(t *testing.T, behind int, lasting ...int64) (*simfs.FS, *Source) {
	t.Helper()
	f := scenes()[0].made(t)
	s := opened(t, f, len(lasting), wide)
	for part, n := range lasting {
		for i := range n {
			appends(t, s, part, record(part, i), i)
		}
		must(t, s.Sync(part))
		for i := range int64(behind) {
			appends(t, s, part, record(part, n+i), n+i)
		}
	}
	return f, s
}

// record answers the record that filled lays at a place.
func record(part int, at int64) string { return fmt.Sprintf("%c%d", 'a'+part, at) }

// appends holds that b is appended to a partition, with this number.
func appends(t *testing.T, s *Source, part int, b string, wanted int64) {
	t.Helper()
	if n, e := s.Append(part, []byte(b)); n != wanted || e != api.OK {
		t.Fatalf("P11.2: Append to %d of %d bytes: %d, %d, not %d", part, len(b), n, e, wanted)
	}
}

// fails holds that Append answers an error, and no number.
func fails(t *testing.T, s *Source, part int, b []byte, wanted api.Errno) {
	t.Helper()
	if n, e := s.Append(part, b); n != 0 || e != wanted {
		t.Errorf("P11.2: Append to %d of %d bytes: %d, %d, not %d", part, len(b), n, e, wanted)
	}
}

// reads holds what Read tells of ranges against wanted.
func reads(t *testing.T, s *Source, l []api.Range, wanted ...string) {
	t.Helper()
	if got, e := read(s, l); !slices.Equal(got, wanted) || e != api.OK {
		t.Errorf("P11.4: Read(%v): %q, %d, not %q", l, got, e, wanted)
	}
}

// tears holds that Read answers an error, and no records.
func tears(t *testing.T, s *Source, l []api.Range, wanted api.Errno) {
	t.Helper()
	if got, e := s.Read(l); len(got) > 0 || e != wanted {
		t.Errorf("P11.4: Read(%v): %v, %d, not %d", l, got, e, wanted)
	}
}

// plans holds what Plan tells behind ranges against wanted.
func plans(t *testing.T, s *Source, was []api.Range, most int, wanted ...api.Range) {
	t.Helper()
	if got, e := s.Plan(was, most); !slices.Equal(got, wanted) || e != api.OK {
		t.Errorf("P11.3: Plan(%v, %d): %v, %d, not %v", was, most, got, e, wanted)
	}
}

// refuses holds that Plan answers an error, and no ranges.
func refuses(t *testing.T, s *Source, was []api.Range, most int, wanted api.Errno) {
	t.Helper()
	if got, e := s.Plan(was, most); len(got) > 0 || e != wanted {
		t.Errorf("P11.3: Plan(%v, %d): %v, %d, not %d", was, most, got, e, wanted)
	}
}

// differ answers what is unlike in what s and p tell of themselves; nothing, if all is like.
func differ(s *Source, p *plainSource) string {
	ends := p.ends()
	if s.Parts() != len(p.logs) || !slices.Equal(s.Ends(), ends) {
		return fmt.Sprintf("Parts %d, Ends %v, not %d, %v", s.Parts(), s.Ends(), len(p.logs), ends)
	}
	all, some, far := make([]api.Range, len(ends)), make([]api.Range, len(ends)), make([]api.Range, len(ends))
	for part, end := range ends {
		all[part], some[part], far[part] = span(0, end), span(0, min(end, int64(part))), span(end, p.logs[part].End())
	}
	for _, l := range [][]api.Range{all, some, far, make([]api.Range, len(ends)), all[1:], append(all, all[0])} {
		got, e := read(s, l)
		if wanted, we := p.Read(l); !slices.Equal(got, wanted) || e != we {
			return fmt.Sprintf("Read(%v): %q, %d, not %q, %d", l, got, e, wanted, we)
		}
		for _, most := range []int{0, 1, 2, 3, 5, 1024} {
			got, e := s.Plan(l, most)
			if wanted, we := p.Plan(l, most); !slices.Equal(got, wanted) || e != we {
				return fmt.Sprintf("Plan(%v, %d): %v, %d, not %v, %d", l, most, got, e, wanted, we)
			}
		}
	}
	return ""
}

// An op is a call that may change a source, and what the chapter's words make of it.
type op struct {
	what  string
	do    func(*Source) (int64, api.Errno)
	plain func(*plainSource) (int64, api.Errno)
	// Where an Append appends what; nothing of a Sync.
	part   int
	record string
	isSync bool
}

func appendOf(part int, b string) op {
	return op{
		what:   fmt.Sprintf("Append to %d of %d bytes", part, len(b)),
		do:     func(s *Source) (int64, api.Errno) { return s.Append(part, []byte(b)) },
		plain:  func(s *plainSource) (int64, api.Errno) { return s.Append(part, b) },
		part:   part,
		record: b,
	}
}

func syncOf(part int) op {
	return op{
		what:   fmt.Sprintf("Sync of %d", part),
		do:     func(s *Source) (int64, api.Errno) { return 0, s.Sync(part) },
		plain:  func(s *plainSource) (int64, api.Errno) { return 0, s.Sync(part) },
		isSync: true,
	}
}

// ops answers calls for partitions that are there, and for such that aren't.
func ops() []op {
	l := []op{appendOf(0, strings.Repeat("z", 1025)), appendOf(0, "twelve bytes")}
	for part := -1; part <= 4; part++ {
		l = append(l, appendOf(part, "yy"), syncOf(part))
	}
	return l
}

// rows answers all rows of n of the calls.
func rows(n int) [][]op {
	l := [][]op{nil}
	for range n {
		var longer [][]op
		for _, row := range l {
			for _, o := range ops() {
				longer = append(longer, append(slices.Clone(row), o))
			}
		}
		l = longer
	}
	return l
}

// agree does a row on a source and a plain one, and holds all that is to be seen of both against each other.
func agree(t *testing.T, s scene, parts, size int, row []op) {
	t.Helper()
	f, p := s.made(t), s.made(t)
	source, e := Open(f, parts, size)
	plain, wanted := plainOpen(p, parts, size)
	what := fmt.Sprintf("%s, %d partitions, size %d", s.what, parts, size)
	must(t, e, wanted)
	for i := 0; ; i++ {
		if !seenOf(f).same(seenOf(p)) {
			t.Fatalf("P11.2: %s: %v, not %v", what, seenOf(f), seenOf(p))
		}
		if wrong := differ(source, plain); wrong != "" {
			t.Fatalf("P11.2 to P11.4: %s: %s", what, wrong)
		}
		if i == len(row) {
			return
		}
		what += ", " + row[i].what
		n, e := row[i].do(source)
		if wanted, we := row[i].plain(plain); n != wanted || e != we {
			t.Fatalf("P11.2: %s: %d, %d, not %d, %d", what, n, e, wanted, we)
		}
	}
}

// P11.2 to P11.4: calls in a row, each behind each, as the chapter's words say.
func TestCallsInARow(t *testing.T) {
	for parts := 1; parts <= 4; parts++ {
		for _, size := range []int{1, 20, wide} {
			for _, s := range scenes() {
				for _, row := range rows(1) {
					agree(t, s, parts, size, row)
				}
			}
			for _, row := range rows(2) {
				agree(t, scenes()[0], parts, size, row)
				agree(t, scenes()[1], parts, size, row)
			}
		}
		for _, row := range rows(3) {
			agree(t, scenes()[0], parts, 20, row)
		}
	}
}

// P11.2: the partitions' directories, and none beside them.
func TestDirectories(t *testing.T) {
	for parts := 1; parts <= 4; parts++ {
		f := scenes()[0].made(t)
		s := opened(t, f, parts, wide)
		if dirs := f.Dirs(); !slices.Equal(dirs, []string{"p0", "p1", "p2", "p3"}[:parts]) {
			t.Errorf("P11.2: Open: %q", dirs)
		}
		for part := range parts {
			appends(t, s, part, record(part, 0), 0)
			if b, _ := f.Read(fmt.Sprint("p", part), segmentName(0)); string(b) != frames(record(part, 0)) {
				t.Errorf("P11.2: Append to %d: %q", part, b)
			}
		}
		if s.Parts() != parts || !slices.Equal(s.Ends(), make([]int64, parts)) {
			t.Errorf("P11.2: %d partitions: %v", s.Parts(), s.Ends())
		}
		if other := opened(t, f, 4, wide); other.Parts() != 4 || !slices.Equal(other.Ends()[:parts], slices.Repeat([]int64{1}, parts)) {
			t.Errorf("P11.2: opened anew: %v", other.Ends())
		}
	}
}

// P11.2: the errors of Open in their order.
func TestErrorsOfOpen(t *testing.T) {
	f, off, many := scenes()[1].made(t), scenes()[1].made(t), scenes()[0].made(t)
	must(t, off.Fuse(0))
	want(t, "a step without power", off.Mkdir("e"), api.ErrDown)
	for i := range api.MaxDirs - 2 {
		must(t, many.Mkdir(fmt.Sprint("d", i)))
	}
	for _, c := range []struct {
		what        string
		f           *simfs.FS
		parts, size int
		wanted      api.Errno
	}{
		{"no partition", f, 0, 20, api.ErrPart},
		{"-1", f, -1, 20, api.ErrPart},
		{"the least number", f, math.MinInt, 20, api.ErrPart},
		{"five", f, 5, 20, api.ErrPart},
		{"the greatest number", f, math.MaxInt, 20, api.ErrPart},
		{"2^32 and 1", f, 1<<32 + 1, 20, api.ErrPart},
		{"no partition, size 0", f, 0, 0, api.ErrPart},
		{"no partition, no file system", nil, 0, 20, api.ErrPart},
		{"five, no file system, size 0", nil, 5, 0, api.ErrPart},
		{"five, no power", off, 5, 20, api.ErrPart},
		{"size 0", f, 1, 0, api.ErrArg},
		{"size 2^24 and 1", f, 4, 1<<24 + 1, api.ErrArg},
		{"size 0, no file system", nil, 4, 0, api.ErrArg},
		{"size 0, no power", off, 4, 0, api.ErrArg},
		{"no file system", nil, 1, 20, api.ErrNil},
		{"no file system, four", nil, 4, 20, api.ErrNil},
		{"no power", off, 1, 20, api.ErrDown},
		{"too many directories", many, 3, 20, api.ErrMany},
	} {
		if s, e := Open(c.f, c.parts, c.size); s != nil || e != c.wanted {
			t.Errorf("P11.2: Open, %s: %v, %d, not %d", c.what, s, e, c.wanted)
		}
	}
	if dirs := many.Dirs(); !slices.Contains(dirs, "p1") || slices.Contains(dirs, "p2") {
		t.Errorf("P11.2: Open leaves %q", dirs)
	}
	for _, size := range []int{1, 1 << 24} {
		for parts := 1; parts <= 4; parts++ {
			if s := opened(t, f, parts, size); !slices.Equal(s.Ends(), []int64{3, 1, 0, 6}[:parts]) {
				t.Errorf("P11.2: Open of %d: %v", parts, s.Ends())
			}
		}
	}
}

// P11.2: wherever the power goes within Open, or with too little room, the steps are those of the logs, rising.
func TestOpenEndsAnywhere(t *testing.T) {
	for _, s := range scenes() {
		for parts := 1; parts <= 4; parts++ {
			for fuse := 0; ; fuse++ {
				f, p := s.made(t), s.made(t)
				must(t, f.Fuse(fuse), p.Fuse(fuse))
				source, e := Open(f, parts, 20)
				_, wanted := plainOpen(p, parts, 20)
				if e != wanted || (e == api.OK) != (source != nil) || !seenOf(f).same(seenOf(p)) {
					t.Fatalf("P11.2: %s, fuse %d: %d, not %d", s.what, fuse, e, wanted)
				}
				if e == api.OK {
					break
				}
			}
			for room := range 60 {
				f, p := s.made(t), s.made(t)
				must(t, f.Room(room), p.Room(room))
				source, e := Open(f, parts, 20)
				_, wanted := plainOpen(p, parts, 20)
				if e != wanted || (e == api.OK) != (source != nil) || !seenOf(f).same(seenOf(p)) {
					t.Fatalf("P11.2: %s, room %d: %d, not %d", s.what, room, e, wanted)
				}
			}
		}
	}
}

// P11.2: a partition that isn't there comes ahead of all that may be wrong with a record, or without power.
func TestPartitionsThatAreNone(t *testing.T) {
	f, s := filled(t, 0, 1, 1)
	for range 2 {
		steps := f.Steps()
		for _, part := range []int{math.MinInt, -1, 2, 3, 4, 1 << 32, math.MaxInt} {
			fails(t, s, part, nil, api.ErrPart)
			fails(t, s, part, make([]byte, 1025), api.ErrPart)
			want(t, "P11.2: Sync", s.Sync(part), api.ErrPart)
		}
		fails(t, s, 1, make([]byte, 1025), api.ErrBig)
		if f.Steps() != steps || !slices.Equal(s.Ends(), []int64{1, 1}) {
			t.Errorf("P11.2: %d steps, %v", f.Steps()-steps, s.Ends())
		}
		must(t, f.Fuse(0))
		want(t, "a step without power", f.Mkdir("e"), api.ErrDown)
	}
	fails(t, s, 0, nil, api.ErrDown)
	want(t, "P11.2: Sync without power", s.Sync(1), api.ErrDown)
}

// P11.2: without room a log goes on, and so do the others.
func TestWithoutRoom(t *testing.T) {
	f, s := filled(t, 0, 2, 0)
	must(t, f.Room(f.Used()+9))
	fails(t, s, 0, []byte("xx"), api.ErrFull)
	fails(t, s, 1, []byte("xx"), api.ErrFull)
	appends(t, s, 1, "y", 0)
	must(t, s.Sync(1), s.Sync(0))
	plans(t, s, []api.Range{{}, {}}, 9, span(0, 2), span(0, 1))
	must(t, f.Room(1000))
	appends(t, s, 0, "xx", 2)
	reads(t, s, []api.Range{span(1, 2), span(0, 1)}, placed(0, 1, "a1"), placed(1, 0, "y"))
}

// P11.3, P11.5: all plans of few records that last, with others behind them, taken till then or further.
func TestPlansOfFew(t *testing.T) {
	for parts := 1; parts <= 4; parts++ {
		for _, lasting := range heapsOf(int64(parts), 0, 3) {
			if len(lasting) != parts {
				continue
			}
			_, s := filled(t, 2, lasting...)
			for _, taken := range heapsOf(int64(parts), 0, 4) {
				if len(taken) == parts {
					planOf(t, s, lasting, taken)
				}
			}
		}
	}
}

// planOf holds the plans behind what was taken against the chapter's words.
func planOf(t *testing.T, s *Source, lasting, taken []int64) {
	t.Helper()
	was, far := make([]api.Range, len(taken)), false
	heaps, all := make([]int64, len(taken)), int64(0)
	for part, to := range taken {
		was[part] = span(to/2, to)
		far = far || to > lasting[part]
		heaps[part] = lasting[part] - to
		all += heaps[part]
	}
	for _, most := range []int{1, 2, 3, 4, 5, 7, 11, 1024} {
		if far {
			refuses(t, s, was, most, api.ErrRange)
			continue
		}
		l, e := s.Plan(was, most)
		if e != api.OK || !offs.Follows(was, l) || offs.Rows(l) != min(int64(most), all) {
			t.Fatalf("P11.3, P11.5: of %v, Plan(%v, %d): %v, %d", lasting, was, most, l, e)
		}
		dealt := plainDeal(heaps, int64(most))
		for part, r := range l {
			if r.To-r.From != dealt[part] {
				t.Fatalf("P11.3: of %v, Plan(%v, %d): %v", lasting, was, most, l)
			}
			for other, r2 := range l {
				if r.To < lasting[part] && r2.To < lasting[other] && r.To-r.From > r2.To-r2.From+1 {
					t.Fatalf("P11.5: of %v, Plan(%v, %d): %v", lasting, was, most, l)
				}
			}
		}
	}
}

// P11.3, P11.4: the errors of Plan and Read in their order.
func TestWrongRanges(t *testing.T) {
	_, s := filled(t, 1, 3, 2)
	right, far := []api.Range{span(1, 3), span(0, 2)}, []api.Range{span(0, 4), span(0, 2)}
	for _, most := range []int{math.MinInt, -1, 0, 1025, 1 << 32, math.MaxInt} {
		for _, l := range [][]api.Range{right, far, nil, right[:1], {span(-1, 0), {}}} {
			refuses(t, s, l, most, api.ErrArg)
		}
	}
	for _, most := range []int{1, 2, 1023, 1024} {
		plans(t, s, right, most, span(3, 3), span(2, 2))
	}
	for _, c := range []struct {
		l      []api.Range
		wanted api.Errno
	}{
		{nil, api.ErrOffs},
		{[]api.Range{}, api.ErrOffs},
		{right[:1], api.ErrOffs},
		{make([]api.Range, 3), api.ErrOffs},
		{make([]api.Range, 5), api.ErrOffs},
		{[]api.Range{span(-1, 1), span(0, 0)}, api.ErrOffs},
		{[]api.Range{span(0, 0), span(math.MinInt64, 0)}, api.ErrOffs},
		{[]api.Range{span(2, 1), span(0, 0)}, api.ErrOffs},
		{[]api.Range{span(0, 0), span(0, 1<<40+1)}, api.ErrOffs},
		{[]api.Range{span(math.MaxInt64, math.MaxInt64), span(0, 0)}, api.ErrOffs},
		{[]api.Range{span(0, 4), span(2, 1)}, api.ErrOffs},
		{[]api.Range{span(0, 4)}, api.ErrOffs},
		{far, api.ErrRange},
		{[]api.Range{span(4, 4), span(0, 0)}, api.ErrRange},
		{[]api.Range{span(0, 3), span(3, 3)}, api.ErrRange},
		{[]api.Range{span(0, 3), span(0, 1<<40)}, api.ErrRange},
		{[]api.Range{span(1<<40, 1<<40), span(0, 0)}, api.ErrRange},
	} {
		refuses(t, s, c.l, 1, c.wanted)
		refuses(t, s, c.l, 1024, c.wanted)
		tears(t, s, c.l, c.wanted)
	}
	must(t, s.Sync(0))
	refuses(t, s, []api.Range{span(4, 4), span(3, 3)}, 1, api.ErrRange)
	plans(t, s, []api.Range{span(4, 4), span(0, 0)}, 1, span(4, 4), span(0, 1))
	reads(t, s, []api.Range{span(3, 4), span(2, 2)}, placed(0, 3, "a3"))
}

// P11.4: all right ranges of few records.
func TestReadsOfFew(t *testing.T) {
	_, s := filled(t, 1, 3, 0, 2)
	for _, l := range heapsOf(4, 0, 3) {
		if len(l) < 4 || l[0] > l[1] || l[2] > l[3] || l[3] > 2 {
			continue
		}
		var wanted []string
		for at := l[0]; at < l[1]; at++ {
			wanted = append(wanted, placed(0, at, record(0, at)))
		}
		for at := l[2]; at < l[3]; at++ {
			wanted = append(wanted, placed(2, at, record(2, at)))
		}
		reads(t, s, []api.Range{span(l[0], l[1]), {}, span(l[2], l[3])}, wanted...)
	}
}

// P11.4: of partitions that can't be read the first one tells; such of which nothing is read tell nothing.
func TestReadsThatFail(t *testing.T) {
	f, s := filled(t, 1, 2, 2, 2)
	must(t, f.Spoil("p1", segmentName(0), 0, 1), f.Remove("p2", segmentName(0)))
	all := []api.Range{span(0, 2), span(0, 2), span(0, 2)}
	tears(t, s, all, api.ErrTorn)
	tears(t, s, []api.Range{span(0, 2), span(1, 1), span(1, 2)}, api.ErrNoFile)
	tears(t, s, []api.Range{span(0, 2), span(1, 1), span(1, 3)}, api.ErrRange)
	reads(t, s, []api.Range{span(1, 2), span(2, 2), span(0, 0)}, placed(0, 1, "a1"))
	must(t, f.Fuse(0))
	want(t, "a step without power", f.Mkdir("e"), api.ErrDown)
	tears(t, s, all, api.ErrDown)
	tears(t, s, []api.Range{span(0, 0), span(1, 2), span(0, 0)}, api.ErrDown)
	reads(t, s, make([]api.Range, 3))
	plans(t, s, make([]api.Range, 3), 4, span(0, 2), span(0, 1), span(0, 1))
}

// P11.3, P11.4: as many records as one plan takes, and more.
func TestGreatestPlan(t *testing.T) {
	_, s := filled(t, 0, 1500, 100, 1500)
	was := make([]api.Range, 3)
	var all []string
	for _, wanted := range [][]api.Range{
		{span(0, 462), span(0, 100), span(0, 462)},
		{span(462, 974), span(100, 100), span(462, 974)},
		{span(974, 1486), span(100, 100), span(974, 1486)},
		{span(1486, 1500), span(100, 100), span(1486, 1500)},
		{span(1500, 1500), span(100, 100), span(1500, 1500)},
	} {
		plans(t, s, was, 1024, wanted...)
		was = wanted
		some, e := read(s, was)
		must(t, e)
		if len(some) != int(offs.Rows(was)) {
			t.Errorf("P11.4: Read(%v): %d records", was, len(some))
		}
		all = append(all, some...)
	}
	for part, n := range []int64{1500, 100, 1500} {
		for at := range n {
			if !slices.Contains(all, placed(part, at, record(part, at))) {
				t.Fatalf("P11.5: %s isn't read", placed(part, at, record(part, at)))
			}
		}
	}
}

// P11.5, W1: many calls, behind crashes and without: the plans tile what lasts, and each reads the same for ever.
func TestPlansTile(t *testing.T) {
	x := uint32(1)
	next := func(n int) int {
		x = x*1664525 + 1013904223
		return int(x>>16) % n
	}
	for parts := 1; parts <= 4; parts++ {
		f := scenes()[0].made(t)
		s := opened(t, f, parts, 60)
		var logged [][]api.Range
		var told [][]string
		was, e := offs.Start(parts)
		must(t, e)
		for i := range 400 {
			switch next(12) {
			case 0, 1:
				must(t, s.Sync(next(parts)))
			case 2, 3:
				l, e := s.Plan(was, 1+next(9))
				records, re := read(s, l)
				must(t, e, re)
				logged, told, was = append(logged, l), append(told, records), l
			case 4:
				must(t, f.Crash(next(9), next(90), next(9), next(90), next(90), next(90), next(90)))
				s = opened(t, f, parts, 60)
			default:
				_, e := s.Append(next(parts), fmt.Append(nil, i))
				must(t, e)
			}
		}
		if !offs.Tiles(logged) || len(logged) < 30 || offs.Rows(was) > 1024 {
			t.Errorf("P11.5: %d plans: %v", len(logged), logged)
		}
		for i, l := range logged {
			reads(t, s, l, told[i]...)
		}
	}
}

// P11.2, P11.4: wherever the power goes, a source that is opened behind the crash has what lasted.
func TestWhereThePowerGoes(t *testing.T) {
	for _, s := range scenes()[:2] {
		for _, row := range rows(2) {
			row = append(row, appendOf(1, "zz"), syncOf(1))
			for fuse := 0; ; fuse++ {
				went := false
				for _, picks := range [][]int{nil, {1, 1, 1, 9, 9, 9}, {0, 1, 0, 20, 11, 20, 11}} {
					went = cutOff(t, s, row, fuse, picks)
				}
				if !went {
					break
				}
			}
		}
	}
}

// cutOff does a row with a fuse till the power goes, and tells whether it went.
func cutOff(t *testing.T, s scene, row []op, fuse int, picks []int) bool {
	t.Helper()
	f, p := s.made(t), s.made(t)
	source := opened(t, f, 2, 20)
	plain, e := plainOpen(p, 2, 20)
	must(t, e, f.Fuse(fuse), p.Fuse(fuse))
	lasting, went := source.Ends(), false
	told, e := read(source, []api.Range{span(0, lasting[0]), span(0, lasting[1])})
	must(t, e)
	for _, o := range row {
		n, e := o.do(source)
		wanted, we := o.plain(plain)
		if n != wanted || e != we {
			t.Fatalf("P11.2: %s, fuse %d, %s: %d, %d, not %d, %d", s.what, fuse, o.what, n, e, wanted, we)
		}
		if went = e == api.ErrDown; went {
			break
		}
		lasting = source.Ends()
		told, e = read(source, []api.Range{span(0, lasting[0]), span(0, lasting[1])})
		must(t, e)
	}
	must(t, f.Crash(picks...), p.Crash(picks...))
	if !seenOf(f).same(seenOf(p)) {
		t.Fatalf("P11.2: %s, fuse %d: %v, not %v", s.what, fuse, seenOf(f), seenOf(p))
	}
	reads(t, opened(t, f, 2, 20), []api.Range{span(0, lasting[0]), span(0, lasting[1])}, told...)
	return went
}

// A nil source answers ErrNil, nothing, 0.
func TestNilSource(t *testing.T) {
	var s *Source
	for _, part := range []int{math.MinInt, -1, 0, 4, math.MaxInt} {
		fails(t, s, part, nil, api.ErrNil)
		fails(t, s, part, make([]byte, 1025), api.ErrNil)
		want(t, "P11.2: Sync of nil", s.Sync(part), api.ErrNil)
	}
	for _, l := range [][]api.Range{nil, {{}}, {span(2, 1)}, {span(0, 1)}, make([]api.Range, 5)} {
		tears(t, s, l, api.ErrNil)
		for _, most := range []int{0, 1, 1024, 1025} {
			refuses(t, s, l, most, api.ErrNil)
		}
	}
	if s.Parts() != 0 || len(s.Ends()) != 0 {
		t.Errorf("P11.2: of nil: %d, %v", s.Parts(), s.Ends())
	}
}

// What is asked of a source still ends when logs of it are broken.
func TestBrokenSourcesEnd(t *testing.T) {
	for _, row := range rows(2) {
		for fuse := range 9 {
			f := scenes()[1].made(t)
			s := opened(t, f, 4, 9)
			must(t, f.Fuse(fuse))
			for range 2 {
				for _, o := range slices.Concat(row, ops()) {
					o.do(s)
					l, _ := s.Plan(make([]api.Range, 4), 9)
					s.Read(l)
				}
				must(t, f.Crash(1, 2, 3))
			}
		}
	}
}

// R4: what is handed in stays, spare room behind its end too, and what is done with it later counts for nothing.
func TestArgumentsStay(t *testing.T) {
	_, s := filled(t, 0, 5, 5)
	ranges := []api.Range{span(1, 2), span(0, 3), span(7, 7), span(8, 8)}
	l, e := s.Plan(ranges[:2], 3)
	must(t, e)
	_, e = s.Read(ranges[:2])
	must(t, e)
	if !slices.Equal(ranges, []api.Range{span(1, 2), span(0, 3), span(7, 7), span(8, 8)}) {
		t.Errorf("R4: the ranges became %v", ranges)
	}
	clear(ranges)
	if !slices.Equal(l, []api.Range{span(2, 4), span(3, 4)}) {
		t.Errorf("R4: with what was handed in what was told became %v", l)
	}
	b := []byte("bytes, and what is behind")
	if _, e := s.Append(1, b[:5]); e != api.OK || string(b) != "bytes, and what is behind" {
		t.Errorf("R4: it became %q, %d", b, e)
	}
	clear(b)
	must(t, s.Sync(1))
	reads(t, s, []api.Range{{}, span(5, 6)}, placed(1, 5, "bytes"))
}

// R4: what is told is the caller's, and no record has memory of another one.
func TestAnswersAreTheCallers(t *testing.T) {
	_, s := filled(t, 0, 3, 2)
	all := []api.Range{span(0, 3), span(0, 2)}
	wanted, e := read(s, all)
	must(t, e)
	for i := range wanted {
		records, e := s.Read(all)
		must(t, e)
		b := records[i].B
		clear(b[:cap(b)])
		_ = append(b, "behind, and far behind"...)
		for k, r := range records {
			if k != i && placed(r.Part, r.At, string(r.B)) != wanted[k] {
				t.Errorf("R4: with the record %d the record %d became %q", i, k, r.B)
			}
		}
		clear(records)
		reads(t, s, all, wanted...)
	}
	ends := s.Ends()
	clear(ends[:cap(ends)])
	l, e := s.Plan([]api.Range{{}, {}}, 3)
	must(t, e)
	clear(l[:cap(l)])
	if !slices.Equal(s.Ends(), []int64{3, 2}) {
		t.Errorf("R4: Ends: %v", s.Ends())
	}
	plans(t, s, []api.Range{{}, {}}, 3, span(0, 2), span(0, 1))
}

// Two sources know nothing of each other.
func TestTwoSources(t *testing.T) {
	_, a := filled(t, 0, 2, 1)
	_, b := filled(t, 1, 1)
	appends(t, a, 1, "x", 1)
	must(t, a.Sync(1))
	if !slices.Equal(a.Ends(), []int64{2, 2}) || !slices.Equal(b.Ends(), []int64{1}) {
		t.Errorf("R6: %v, %v", a.Ends(), b.Ends())
	}
	reads(t, b, []api.Range{span(0, 1)}, placed(0, 0, "a0"))
}
