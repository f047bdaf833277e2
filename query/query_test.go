package query

import (
	"math"
	"reflect"
	"slices"
	"strings"
	"testing"

	"headgate/api"
)

// P16.1: the chapter's example.
func TestExample(t *testing.T) {
	q := example()
	if e := Check(q); e != api.OK {
		t.Errorf("P16.1: Check: %d", e)
	}
	if l, e := Projected(q); e != api.OK || !slices.Equal(l, []api.Column{{Name: "t", Kind: 1}, {Name: "k", Kind: 3}}) {
		t.Errorf("P16.1: Projected: %v, %d", l, e)
	}
	if l, e := Out(q); e != api.OK || !slices.Equal(l, []api.Column{{Name: "wstart", Kind: 1}, {Name: "wend", Kind: 1}, {Name: "k", Kind: 3}, {Name: "n", Kind: 1}}) {
		t.Errorf("P16.1: Out: %v, %d", l, e)
	}
	if n, ok := Time(q); n != 0 || !ok {
		t.Errorf("P16.1: Time: %d, %t", n, ok)
	}
	q.Aggs[0].Name = "wend"
	if e := Check(q); e != 164 {
		t.Errorf("P16.1: Check with the Agg named wend: %d", e)
	}
}

// P16.1: what comes out, by hand.
func TestOutByHand(t *testing.T) {
	const i, b, s = api.KInt, api.KBool, api.KText
	projected := []api.Column{{Name: "t", Kind: i}, {Name: "b", Kind: b}, {Name: "s", Kind: s}, {Name: "i", Kind: i}, {Name: "x", Kind: s}, {Name: "y", Kind: b}}
	if l, e := Projected(rich()); e != api.OK || !slices.Equal(l, projected) {
		t.Errorf("P16.1: Projected: %v, %d", l, e)
	}
	want := []api.Column{{Name: "wstart", Kind: i}, {Name: "wend", Kind: i}, {Name: "s", Kind: s}, {Name: "b", Kind: b}, {Name: "n", Kind: i}, {Name: "sum", Kind: i}, {Name: "least", Kind: s}, {Name: "t", Kind: b}}
	if l, e := Out(rich()); e != api.OK || !slices.Equal(l, want) {
		t.Errorf("P16.1: Out: %v, %d", l, e)
	}
	if l, e := Out(timed()); e != api.OK || !slices.Equal(l, projected) {
		t.Errorf("P16.1: Out of one that isn't aggregated: %v, %d", l, e)
	}
	if l, e := Out(bare()); e != api.OK || !slices.Equal(l, []api.Column{{Name: "s", Kind: s}}) {
		t.Errorf("P16.1: Out of a bare one: %v, %d", l, e)
	}
	q := rich()
	q.Group = nil
	if l, e := Out(q); e != api.OK || !slices.Equal(l, slices.Delete(want, 2, 4)) {
		t.Errorf("P16.1: Out without groups: %v, %d", l, e)
	}
}

// P16.1: of what kind each aggregate of each column comes out.
func TestAggKinds(t *testing.T) {
	for _, c := range []struct {
		kind int
		col  string
		want int
	}{
		{1, "t", 1}, {1, "b", 1}, {1, "s", 1}, {2, "t", 1}, {2, "b", 1}, {2, "s", 1}, {3, "t", 1}, {3, "i", 1}, {3, "b", 0}, {3, "s", 0}, {3, "x", 0},
		{4, "t", 1}, {4, "b", 2}, {4, "s", 3}, {4, "x", 3}, {5, "t", 1}, {5, "y", 2}, {5, "s", 3}, {0, "t", 0}, {6, "t", 0}, {-1, "t", 0}, {1 << 32, "t", 0}, {1<<32 + 1, "t", 0}, {math.MaxInt, "t", 0}, {math.MinInt, "t", 0},
		{1, "", 0}, {1, "none", 0}, {1, "j", 0}, {1, "wstart", 0}, {1, "n", 0}, {2, "T", 0}, {4, "s ", 0},
	} {
		q := rich()
		q.Aggs = []api.Agg{{Kind: c.kind, Col: c.col, Name: "n"}}
		l, e := Out(q)
		if c.want == 0 {
			if e != 164 || len(l) != 0 {
				t.Errorf("P16.1: the Agg %d of %q: %v, %d", c.kind, c.col, l, e)
			}
			continue
		}
		if e != api.OK || len(l) != 5 || l[4] != (api.Column{Name: "n", Kind: c.want}) {
			t.Errorf("P16.1: the Agg %d of %q: %v, %d", c.kind, c.col, l, e)
		}
	}
}

// A wrong is a change of the rich query, and the error it has then.
type wrong struct {
	do change
	e  api.Errno
}

func hasErrors(t *testing.T, l []wrong) {
	t.Helper()
	for i, c := range l {
		q := rich()
		c.do(&q)
		if e := Check(q); e != c.e {
			t.Errorf("P16.1: the change %d has the error %d, not %d", i, e, c.e)
		}
		if f := checkPlain(q); f != c.e {
			t.Errorf("by the words the change %d has the error %d, not %d", i, f, c.e)
		}
	}
}

// P16.1: the first three rules, by hand.
func TestAskedByHand(t *testing.T) {
	l := []wrong{
		{func(q *api.Query) {}, 0},
		{func(q *api.Query) { q.Cols = nil }, 160}, {func(q *api.Query) { q.Cols[3].Kind = 0 }, 160}, {func(q *api.Query) { q.Cols[3].Kind = 4 }, 160},
		{func(q *api.Query) { q.Cols[3].Name = "i" }, 160}, {func(q *api.Query) { q.Cols = append(q.Cols, ints(8)...) }, 0}, {func(q *api.Query) { q.Cols = append(q.Cols, ints(9)...) }, 160},
		{func(q *api.Query) { q.Cols[0], q.Cols[1] = q.Cols[1], q.Cols[0] }, 0}, {func(q *api.Query) { q.Cols[2].Name = "r" }, 162}, {func(q *api.Query) { q.Cols[1].Name = "r" }, 161},
		{func(q *api.Query) { q.Filter = nil }, 0}, {func(q *api.Query) { q.Filter = []api.Expr{} }, 0}, {func(q *api.Query) { q.Filter = append(q.Filter, q.Filter...) }, 161},
		{func(q *api.Query) { q.Filter = []api.Expr{null("bool")} }, 0}, {func(q *api.Query) { q.Filter = []api.Expr{null("int")} }, 161}, {func(q *api.Query) { q.Filter = []api.Expr{col("s")} }, 161},
		{func(q *api.Query) { q.Filter = []api.Expr{{}} }, 161}, {func(q *api.Query) { q.Filter = []api.Expr{op(16, col("t"))} }, 161}, {func(q *api.Query) { q.Filter = []api.Expr{col("y")} }, 161},
		{func(q *api.Query) { q.Filter = []api.Expr{op(17, endless())} }, 161}, {func(q *api.Query) { q.Filter = []api.Expr{op(10, op(7, lit(1), lit(0)), lit(1))} }, 0},
		{func(q *api.Query) { q.Project = nil }, 162}, {func(q *api.Query) { q.Project = q.Project[:4] }, 164}, {func(q *api.Query) { q.Project = q.Project[1:] }, 163},
		{func(q *api.Query) { q.Project[5].Name = "x" }, 162}, {func(q *api.Query) { q.Project[4].Name = "t" }, 162}, {func(q *api.Query) { q.Project[4].E = col("none") }, 162},
		{func(q *api.Query) { q.Project[4].E = op(9, col("s")) }, 162}, {func(q *api.Query) { q.Project[4].E = endless() }, 162}, {func(q *api.Query) { q.Project[4].E = api.Expr{} }, 162},
		{func(q *api.Query) { q.Project[4].E = col("y") }, 162}, {func(q *api.Query) { q.Project = append(q.Project, projects(q.Cols)...) }, 162},
	}
	for _, name := range noNames() {
		l = append(l, wrong{func(q *api.Query) { q.Cols[3].Name = name }, 160}, wrong{func(q *api.Query) { q.Project[4].Name = name }, 162})
	}
	for n, e := range map[int]api.Errno{5: 0, 6: 0, 7: 162, 8: 162, 100: 162, 1 << 20: 162} {
		l = append(l, wrong{func(q *api.Query) {
			for i := range n {
				q.Project = append(q.Project, api.Named{Name: "p" + string(rune('a'+i%26)), E: op(17, endless())})
				if e == 0 {
					q.Project[6+i].E = lit(1)
				}
			}
		}, e})
	}
	hasErrors(t, l)
}

// P16.1: the time's rule, by hand.
func TestTimeByHand(t *testing.T) {
	hasErrors(t, []wrong{
		{func(q *api.Query) { q.Time = "i" }, 0}, {func(q *api.Query) { q.Time = "b" }, 163}, {func(q *api.Query) { q.Time = "s" }, 163}, {func(q *api.Query) { q.Time = "j" }, 163}, {func(q *api.Query) { q.Time = "none" }, 163},
		{func(q *api.Query) { q.Time = "T" }, 163}, {func(q *api.Query) { q.Time = "" }, 163}, {func(q *api.Query) { q.Time, q.Delay = "", 0 }, 163}, {func(q *api.Query) { q.Time, q.Distinct = "", false }, 163},
		{func(q *api.Query) { q.Time, q.Delay, q.Distinct = "", 0, false }, 164}, {func(q *api.Query) { q.Project[0].E = null("int") }, 0}, {func(q *api.Query) { q.Project[0].E = null("text") }, 163},
		{func(q *api.Query) { q.Delay = 0 }, 0}, {func(q *api.Query) { q.Delay = -1 }, 163}, {func(q *api.Query) { q.Delay = math.MinInt64 }, 163}, {func(q *api.Query) { q.Delay = 1 << 56 }, 0},
		{func(q *api.Query) { q.Delay = 1<<56 + 1 }, 163}, {func(q *api.Query) { q.Delay = math.MaxInt64 }, 163}, {func(q *api.Query) { q.Distinct = false }, 0},
	})
	q := bare()
	for _, c := range []struct {
		delay    int64
		distinct bool
		e        api.Errno
	}{{0, false, 0}, {1, false, 163}, {-1, false, 163}, {0, true, 163}, {1, true, 163}, {1 << 56, false, 163}} {
		q.Delay, q.Distinct = c.delay, c.distinct
		if e := Check(q); e != c.e {
			t.Errorf("P16.1: Check without a time, of the delay %d, %t: %d", c.delay, c.distinct, e)
		}
	}
}

// P16.1: the aggregates' rule, by hand.
func TestAggsByHand(t *testing.T) {
	l := []wrong{
		{func(q *api.Query) { q.Size, q.Slide = 0, 0 }, 164}, {func(q *api.Query) { q.Size = 0 }, 164}, {func(q *api.Query) { q.Slide = 0 }, 164}, {func(q *api.Query) { q.Slide = 30 }, 0}, {func(q *api.Query) { q.Slide = 31 }, 164},
		{func(q *api.Query) { q.Slide = -10 }, 164}, {func(q *api.Query) { q.Size, q.Slide = -30, -30 }, 164}, {func(q *api.Query) { q.Size = 640 }, 0}, {func(q *api.Query) { q.Size = 641 }, 164}, {func(q *api.Query) { q.Size, q.Slide = 1, 1 }, 0},
		{func(q *api.Query) { q.Size, q.Slide = 1<<56, 1<<50 }, 0}, {func(q *api.Query) { q.Size, q.Slide = 1<<56, 1<<50-1 }, 164}, {func(q *api.Query) { q.Size, q.Slide = 1<<56+1, 1<<56 }, 164}, {func(q *api.Query) { q.Size, q.Slide = math.MaxInt64, math.MaxInt64 }, 164},
		{func(q *api.Query) { q.Group = nil }, 0}, {func(q *api.Query) { q.Group = []string{"t"} }, 164}, {func(q *api.Query) { q.Group, q.Aggs[3].Name = []string{"t"}, "v" }, 0}, {func(q *api.Query) { q.Group[1] = "s" }, 164},
		{func(q *api.Query) { q.Group[1] = "j" }, 164}, {func(q *api.Query) { q.Group[1] = "n" }, 164}, {func(q *api.Query) { q.Group[1] = "" }, 164}, {func(q *api.Query) { q.Group[1] = "wstart" }, 164}, {func(q *api.Query) { q.Group[0], q.Group[1] = "b", "s" }, 0},
		{func(q *api.Query) { q.Project[1].Name, q.Group = "wstart", []string{"wstart"} }, 164}, {func(q *api.Query) { q.Project[1].Name, q.Group = "wend", []string{"wend"} }, 164}, {func(q *api.Query) { q.Project[1].Name, q.Group = "wstart", nil }, 0},
		{func(q *api.Query) { q.Project[1].Name, q.Group, q.Aggs[0].Col = "wend", nil, "wend" }, 0}, {func(q *api.Query) { q.Project[3].Name, q.Time, q.Aggs[1].Col = "wstart", "wstart", "wstart" }, 0},
		{func(q *api.Query) { q.Aggs[0].Name = "wstart" }, 164}, {func(q *api.Query) { q.Aggs[0].Name = "wend" }, 164}, {func(q *api.Query) { q.Aggs[0].Name = "s" }, 164}, {func(q *api.Query) { q.Aggs[0].Name = "sum" }, 164}, {func(q *api.Query) { q.Aggs[0].Name = "i" }, 0},
		{func(q *api.Query) { q.Aggs[0].Name = "j" }, 0}, {func(q *api.Query) { q.Aggs[0].Name = strings.Repeat("z", 16) }, 0}, {func(q *api.Query) { q.Aggs[1].Col = "s" }, 164}, {func(q *api.Query) { q.Aggs = q.Aggs[:1] }, 0},
		{func(q *api.Query) {
			q.Aggs = append(q.Aggs, api.Agg{Kind: 1, Col: "i", Name: "u"}, api.Agg{Kind: 2, Col: "i", Name: "v"})
		}, 0},
		{func(q *api.Query) { q.Aggs = slices.Repeat(q.Aggs, 1<<18) }, 164}, {func(q *api.Query) { q.Group = slices.Repeat(q.Group, 1<<18) }, 164},
		{func(q *api.Query) {
			q.Time, q.Delay, q.Distinct, q.Size, q.Slide, q.Group, q.Aggs, q.Mode = "", 0, false, 0, 0, nil, nil, 1
		}, 0},
		{func(q *api.Query) {
			q.Time, q.Delay, q.Distinct, q.Size, q.Slide, q.Group, q.Mode = "", 0, false, 0, 0, nil, 1
		}, 164},
		{func(q *api.Query) { q.Size, q.Slide, q.Aggs, q.Mode = 0, 0, nil, 1 }, 164}, {func(q *api.Query) { q.Size, q.Group, q.Aggs, q.Mode = 0, nil, nil, 1 }, 164}, {func(q *api.Query) { q.Slide, q.Group, q.Aggs, q.Mode = 0, nil, nil, 1 }, 164},
		{func(q *api.Query) { q.Size, q.Slide, q.Group, q.Aggs, q.Mode = 0, 0, nil, nil, 1 }, 0}, {func(q *api.Query) { q.Size, q.Slide, q.Group, q.Aggs, q.Mode = 0, 0, []string{}, []api.Agg{}, 2 }, 0},
	}
	for _, name := range noNames() {
		l = append(l, wrong{func(q *api.Query) { q.Aggs[0].Name = name }, 164})
	}
	hasErrors(t, l)
}

// P16.1: how many groups and aggregates there may be, of twelve projected columns.
func TestHowMany(t *testing.T) {
	for groups := range 13 {
		for aggs := range 10 {
			q := api.Query{Cols: ints(12), Project: projects(ints(12)), Time: "ca", Size: 5, Slide: 5, Mode: 1}
			for _, c := range q.Cols[:groups] {
				q.Group = append(q.Group, c.Name)
			}
			for i := range aggs {
				q.Aggs = append(q.Aggs, api.Agg{Kind: 3, Col: "cl", Name: "a" + string(rune('0'+i))})
			}
			good := aggs <= 6 && groups+aggs <= 10
			if e := Check(q); good && e != api.OK || !good && e != 164 {
				t.Errorf("P16.1: %d groups and %d Aggs: %d", groups, aggs, e)
			}
			hold(t, q)
		}
	}
}

// P16.1: windows and groups without an Agg are right, but such a query is none that is aggregated.
func TestNoAggs(t *testing.T) {
	q := rich()
	q.Aggs, q.Mode = nil, 1
	if e := Check(q); e != api.OK {
		t.Errorf("P16.1: Check without an Agg: %d", e)
	}
	if l, e := Out(q); e != api.OK || !slices.Equal(l, projectedPlain(q)) {
		t.Errorf("P16.1: Out without an Agg: %v, %d", l, e)
	}
	q.Mode = 3
	if e := Check(q); e != 165 {
		t.Errorf("P16.1: Check without an Agg, in Complete: %d", e)
	}
}

// P16.1: the modes.
func TestModes(t *testing.T) {
	for _, mode := range []int{math.MinInt, -3, -1, 0, 1, 2, 3, 4, 1 << 32, 1<<32 + 1, math.MaxInt} {
		for i, q := range scenes() {
			q.Mode = mode
			good := mode == 1 || mode == 2 || mode == 3 && i < 2
			if e := Check(q); good && e != api.OK || !good && e != 165 {
				t.Errorf("P16.1: the mode %d of the scene %d: %d", mode, i, e)
			}
		}
	}
}

// P16.1: the first error, while what is wrong is mended bit by bit.
func TestOrderOfErrors(t *testing.T) {
	q, good := rich(), rich()
	q.Cols, q.Filter, q.Project, q.Time, q.Group, q.Mode = nil, append(q.Filter, q.Filter...), nil, "none", []string{"none"}, 0
	for i, mend := range []change{
		func(*api.Query) {},
		func(q *api.Query) { q.Cols = good.Cols },
		func(q *api.Query) { q.Filter = good.Filter },
		func(q *api.Query) { q.Project = good.Project },
		func(q *api.Query) { q.Time = good.Time },
		func(q *api.Query) { q.Group = good.Group },
	} {
		mend(&q)
		if e := Check(q); e != api.Errno(160+i) {
			t.Errorf("P16.1: with %d things mended: %d", i, e)
		}
		hold(t, q)
	}
	q.Mode = good.Mode
	if hold(t, q) != api.OK {
		t.Errorf("P16.1: with all mended: %d", Check(q))
	}
}

// P16.1: the time's place is among the projected columns, wherever those that are read stand.
func TestTimePlace(t *testing.T) {
	cols := ints(12)
	for at := range cols {
		q := api.Query{Cols: cols, Project: projects(cols), Time: cols[at].Name, Mode: 1}
		slices.Reverse(q.Project)
		if n, ok := Time(q); n != 11-at || !ok {
			t.Errorf("P16.1: Time of the column %d: %d, %t", at, n, ok)
		}
		q.Mode = 0
		if n, ok := Time(q); n != 0 || ok {
			t.Errorf("P16.1: Time of a wrong query: %d, %t", n, ok)
		}
	}
	if n, ok := Time(bare()); n != 0 || ok {
		t.Errorf("P16.1: Time without one: %d, %t", n, ok)
	}
}

// roomy answers q with spare room behind its lists, in which something stands, and the lists with it.
func roomy(q api.Query) (api.Query, [4]any) {
	cols := append(q.Cols, api.Column{Name: "spare", Kind: 9})
	project := append(q.Project, api.Named{Name: "spare"})
	group := append(q.Group, "spare")
	aggs := append(q.Aggs, api.Agg{Kind: 9, Name: "spare"})
	q.Cols, q.Project, q.Group, q.Aggs = cols[:len(q.Cols)], project[:len(q.Project)], group[:len(q.Group)], aggs[:len(q.Aggs)]
	return q, [4]any{cols, project, group, aggs}
}

// R4: what is handed in stays, and what is told is the caller's.
func TestOwnMemory(t *testing.T) {
	for _, scene := range scenes() {
		q, lists := roomy(scene)
		fresh, want := roomy(clone(scene))
		cols, _ := Projected(q)
		out, _ := Out(q)
		Check(q)
		Time(q)
		for _, l := range [][]api.Column{cols, out} {
			clear(append(l, api.Column{Name: "more"}))
			clear(l[:cap(l)])
		}
		if !reflect.DeepEqual(q, fresh) || !reflect.DeepEqual(lists, want) {
			t.Errorf("R4: the query became %v", q)
		}
		again, _ := Projected(q)
		if more, _ := Out(q); !slices.Equal(again, projectedPlain(q)) || !slices.Equal(more, outPlain(q)) {
			t.Errorf("R4: told once more: %v, %v", again, more)
		}
	}
}

// R1, R2: queries of nothing, and of what can't be.
func TestWildQueries(t *testing.T) {
	for _, q := range []api.Query{
		{}, {Mode: 1}, {Cols: make([]api.Column, 1<<20)}, {Cols: ints(1)}, {Cols: ints(1), Project: make([]api.Named, 12)}, {Cols: ints(1), Project: make([]api.Named, 1<<20)},
		{Cols: ints(1), Filter: make([]api.Expr, 1<<20)}, {Cols: ints(1), Filter: []api.Expr{endless()}}, {Time: "t", Delay: math.MinInt64, Size: math.MinInt64, Slide: math.MinInt64, Mode: math.MinInt},
		{Group: make([]string, 1<<20), Aggs: make([]api.Agg, 1<<20), Delay: math.MaxInt64, Size: math.MaxInt64, Slide: math.MaxInt64, Mode: math.MaxInt, Distinct: true},
	} {
		if hold(t, q) == api.OK {
			t.Errorf("P16.1: a wild query is right")
		}
	}
}
