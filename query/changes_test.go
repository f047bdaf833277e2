package query

import (
	"math"
	"math/rand"
	"slices"
	"strconv"
	"strings"
	"testing"

	"headgate/api"
	"headgate/decode"
)

// This file holds queries that were changed, here and there, against the chapter's words.

// A change writes into a query that has no memory of another one.
type change func(q *api.Query)

// at answers a change of one of a list, if there is one there.
func at[T any](list func(q *api.Query) *[]T, i int, do func(x *T)) change {
	return func(q *api.Query) {
		if l := *list(q); i < len(l) {
			do(&l[i])
		}
	}
}

// put answers a change that lays one behind a list.
func put[T any](list func(q *api.Query) *[]T, x T) change {
	return func(q *api.Query) { *list(q) = append(*list(q), x) }
}

// lists answers changes of a whole list: its first one laid behind it, none left, all turned round, the first one gone, far too many.
func lists[T any](list func(q *api.Query) *[]T) []change {
	return []change{
		func(q *api.Query) { *list(q) = append(*list(q), (*list(q))[:min(1, len(*list(q)))]...) },
		func(q *api.Query) { *list(q) = nil },
		func(q *api.Query) { *list(q) = []T{} },
		func(q *api.Query) { slices.Reverse(*list(q)) },
		func(q *api.Query) { *list(q) = (*list(q))[min(1, len(*list(q))):] },
		func(q *api.Query) { *list(q) = slices.Repeat(*list(q), 13) },
	}
}

func colsOf(q *api.Query) *[]api.Column { return &q.Cols }

func filterOf(q *api.Query) *[]api.Expr { return &q.Filter }

func projectOf(q *api.Query) *[]api.Named { return &q.Project }

func groupOf(q *api.Query) *[]string { return &q.Group }

func aggsOf(q *api.Query) *[]api.Agg { return &q.Aggs }

// columnChanges answers changes of what a query reads.
func columnChanges() []change {
	l := lists(colsOf)
	for i := range 2 {
		for _, kind := range []int{0, 1, 2, 3, 4, -1, 257, math.MaxInt} {
			l = append(l, at(colsOf, i, func(c *api.Column) { c.Kind = kind }))
		}
		for _, name := range []string{"", "K", "k", "t", "i", "wstart", strings.Repeat("a", 16), strings.Repeat("a", 17)} {
			l = append(l, at(colsOf, i, func(c *api.Column) { c.Name = name }))
		}
	}
	for _, n := range []int{8, 10, 11, 12, 13} {
		l = append(l, func(q *api.Query) { q.Cols = append(q.Cols, ints(n)[:n-min(n, len(q.Cols))]...) })
		l = append(l, func(q *api.Query) { q.Cols = append(q.Cols, ints(n)...) })
	}
	return l
}

// expressions answers expressions of each kind, and such as have none.
func expressions() []api.Expr {
	return []api.Expr{col("t"), col("k"), col("s"), col("b"), col("none"), col(""), lit(1), null("bool"), null("int"), null("text"), null(""), {}, op(9, col("i")), op(9, col("s")), op(10, lit(1), lit(2)), op(7, lit(1), lit(0)), op(21), op(17, endless())}
}

// askedChanges answers changes of the filter and of what is projected.
func askedChanges() []change {
	l := slices.Concat(lists(filterOf), lists(projectOf))
	for _, x := range expressions() {
		l = append(l, put(filterOf, x), func(q *api.Query) { q.Filter = []api.Expr{x} }, put(projectOf, api.Named{Name: "new", E: x}))
		for i := range 2 {
			l = append(l, at(projectOf, i, func(p *api.Named) { p.E = x }))
		}
	}
	for i := range 3 {
		for _, name := range append(noNames()[:4], "k", "t", "s", "wend", strings.Repeat("a", 16)) {
			l = append(l, at(projectOf, i, func(p *api.Named) { p.Name = name }))
		}
	}
	for n := 5; n <= 13; n++ {
		l = append(l, func(q *api.Query) {
			for i := range n {
				q.Project = append(q.Project, api.Named{Name: "p" + string(rune('a'+i)), E: lit(int64(i))})
			}
		})
	}
	return l
}

// timeChanges answers changes of the time, the delay, and how unlike rows are to be.
func timeChanges() []change {
	l := []change{
		func(q *api.Query) { q.Distinct = !q.Distinct },
		func(q *api.Query) { q.Time, q.Delay, q.Distinct = "", 0, false },
	}
	for _, name := range []string{"", "t", "k", "s", "b", "i", "x", "none", "T", "new", "t ", "wstart"} {
		l = append(l, func(q *api.Query) { q.Time = name })
	}
	for _, n := range numbers() {
		l = append(l, func(q *api.Query) { q.Delay = n })
	}
	return l
}

// windowChanges answers changes of the windows and of the mode.
func windowChanges() []change {
	var l []change
	for _, n := range numbers() {
		l = append(l, func(q *api.Query) { q.Size = n }, func(q *api.Query) { q.Slide = n }, func(q *api.Query) { q.Size, q.Slide = n, n })
	}
	for _, mode := range []int{0, 1, 2, 3, 4, -1, -3, 257, math.MinInt, math.MaxInt} {
		l = append(l, func(q *api.Query) { q.Mode = mode })
	}
	return append(l,
		func(q *api.Query) { q.Size, q.Slide = 64, 1 },
		func(q *api.Query) { q.Size, q.Slide = 65, 1 },
		func(q *api.Query) { q.Size, q.Slide, q.Group, q.Aggs = 0, 0, nil, nil },
		func(q *api.Query) { q.Size, q.Slide, q.Group, q.Aggs = 10, 5, []string{"t"}, nil },
	)
}

// aggChanges answers changes of the groups and the aggregates.
func aggChanges() []change {
	l := slices.Concat(lists(groupOf), lists(aggsOf))
	for _, name := range []string{"", "t", "k", "s", "b", "i", "n", "x", "none", "wstart", "wend", "S"} {
		l = append(l, put(groupOf, name), at(groupOf, 0, func(g *string) { *g = name }))
		for kind := range 7 {
			l = append(l, put(aggsOf, api.Agg{Kind: kind, Col: name, Name: "new"}))
		}
		l = append(l, at(aggsOf, 0, func(a *api.Agg) { a.Col = name }), put(aggsOf, api.Agg{Kind: 1, Col: "t", Name: name}))
	}
	for _, name := range append(noNames()[:4], "k", "n", "sum", "wstart", "wend", strings.Repeat("z", 16)) {
		l = append(l, at(aggsOf, 0, func(a *api.Agg) { a.Name = name }), at(aggsOf, 1, func(a *api.Agg) { a.Name = name }))
	}
	for _, kind := range []int{math.MinInt, -1, 0, 1, 2, 3, 4, 5, 6, 257, math.MaxInt} {
		l = append(l, at(aggsOf, 0, func(a *api.Agg) { a.Kind = kind }), at(aggsOf, 2, func(a *api.Agg) { a.Kind = kind }))
	}
	for n := 2; n <= 7; n++ {
		l = append(l, func(q *api.Query) {
			for _, c := range ints(n) {
				q.Aggs = append(q.Aggs, api.Agg{Kind: 1, Col: "t", Name: c.Name})
			}
		})
	}
	return l
}

func changes() []change {
	return slices.Concat(columnChanges(), askedChanges(), timeChanges(), windowChanges(), aggChanges())
}

// hold holds all that is told of q against the chapter's words, and answers Check's error.
func hold(t *testing.T, q api.Query) api.Errno {
	t.Helper()
	want := checkPlain(q)
	if e := Check(q); e != want {
		t.Fatalf("P16.1: Check(%v): %d, not %d", q, e, want)
	}
	cols, e := Projected(q)
	out, f := Out(q)
	place, ok := Time(q)
	if want != 0 {
		if e != want || f != want || len(cols) != 0 || len(out) != 0 || place != 0 || ok {
			t.Fatalf("P16.1: of %v that has the error %d: %v, %d; %v, %d; %d, %t", q, want, cols, e, out, f, place, ok)
		}
		return want
	}
	if e != 0 || !slices.Equal(cols, projectedPlain(q)) {
		t.Fatalf("P16.1: Projected(%v): %v, %d", q, cols, e)
	}
	if f != 0 || !slices.Equal(out, outPlain(q)) {
		t.Fatalf("P16.1: Out(%v): %v, %d, not %v", q, out, f, outPlain(q))
	}
	if n, has := placePlain(q); place != n || ok != has {
		t.Fatalf("P16.1: Time(%v): %d, %t, not %d, %t", q, place, ok, n, has)
	}
	if decode.Check(cols) != 0 || decode.Check(out) != 0 {
		t.Fatalf("P16.2: of %v come no right columns: %v, %v", q, cols, out)
	}
	return 0
}

// P16.1, P16.2: one change, and any two, of each scene.
func TestTwoChanges(t *testing.T) {
	all := changes()
	for i, scene := range scenes() {
		t.Run(strconv.Itoa(i), func(t *testing.T) {
			t.Parallel()
			told := map[api.Errno]int{}
			for j, one := range all {
				q := clone(scene)
				one(&q)
				told[hold(t, q)]++
				// Each second pair, others from scene to scene, is enough, and half the work.
				for k := j + 1 + i%2; k < len(all); k += 2 {
					q := clone(scene)
					one(&q)
					all[k](&q)
					told[hold(t, q)]++
				}
			}
			for _, e := range []api.Errno{0, 160, 161, 162, 163, 164, 165} {
				if told[e] < 100 {
					t.Errorf("only %d of all changed queries have the error %d", told[e], e)
				}
			}
		})
	}
}

// P16.1, P16.2: many changes at once, by a chance that is the same each time.
func TestManyChanges(t *testing.T) {
	chance := rand.New(rand.NewSource(16))
	all, bases := changes(), scenes()
	right := 0
	for range 40000 {
		q := clone(bases[chance.Intn(len(bases))])
		for range 3 + chance.Intn(5) {
			was := clone(q)
			all[chance.Intn(len(all))](&q)
			if checkPlain(q) != 0 && chance.Intn(4) > 0 {
				q = was
			}
		}
		if hold(t, q) == 0 {
			right++
		}
	}
	if right < 5000 {
		t.Errorf("only %d of all changed queries are right", right)
	}
}
