package query

import (
	"math"
	"regexp"
	"slices"
	"strings"

	"headgate/api"
	"headgate/expr"
)

// This file does the chapter's words plainly, and makes what is tried.

func col(name string) api.Expr { return api.Expr{Op: 1, Name: name} }

func lit(n int64) api.Expr { return api.Expr{Op: 2, V: api.Value{Kind: 1, N: n}} }

func null(kind string) api.Expr { return api.Expr{Op: 3, Name: kind} }

func op(op int, kids ...api.Expr) api.Expr { return api.Expr{Op: op, Kids: kids} }

// endless answers an expression that stands within itself.
func endless() api.Expr {
	l := make([]api.Expr, 2)
	for i := range l {
		l[i] = api.Expr{Op: 4, Kids: l}
	}
	return l[0]
}

// ints answers n right columns that are ints.
func ints(n int) []api.Column {
	var l []api.Column
	for i := range n {
		l = append(l, api.Column{Name: "c" + string(rune('a'+i)), Kind: 1})
	}
	return l
}

// projects answers the columns as they are, projected.
func projects(cols []api.Column) []api.Named {
	var l []api.Named
	for _, c := range cols {
		l = append(l, api.Named{Name: c.Name, E: col(c.Name)})
	}
	return l
}

// example answers the chapter's example.
func example() api.Query {
	cols := []api.Column{{Name: "t", Kind: 1}, {Name: "k", Kind: 3}}
	return api.Query{
		Cols: cols, Project: projects(cols), Time: "t", Size: 10, Slide: 10,
		Group: []string{"k"}, Aggs: []api.Agg{{Kind: 1, Col: "k", Name: "n"}}, Mode: 1,
	}
}

// rich answers a query that has something of everything.
func rich() api.Query {
	return api.Query{
		Cols:   []api.Column{{Name: "i", Kind: 1}, {Name: "b", Kind: 2}, {Name: "s", Kind: 3}, {Name: "j", Kind: 1}},
		Filter: []api.Expr{op(16, col("b"))},
		Project: []api.Named{
			{Name: "t", E: op(4, col("i"), lit(1))}, {Name: "b", E: col("b")}, {Name: "s", E: col("s")}, {Name: "i", E: op(20, col("s"))}, {Name: "x", E: null("text")}, {Name: "y", E: op(17, col("j"))},
		},
		Time: "t", Delay: 5, Distinct: true, Size: 30, Slide: 10,
		Group: []string{"s", "b"},
		Aggs:  []api.Agg{{Kind: 1, Col: "x", Name: "n"}, {Kind: 3, Col: "i", Name: "sum"}, {Kind: 4, Col: "s", Name: "least"}, {Kind: 5, Col: "y", Name: "t"}},
		Mode:  3,
	}
}

// bare answers a query of as little as can be.
func bare() api.Query {
	return api.Query{Cols: []api.Column{{Name: "s", Kind: 3}}, Project: []api.Named{{Name: "s", E: col("s")}}, Mode: 1}
}

// timed answers a query with a time that isn't aggregated.
func timed() api.Query {
	q := rich()
	q.Size, q.Slide, q.Group, q.Aggs, q.Mode = 0, 0, nil, nil, 2
	return q
}

// scenes answers right queries of unlike kinds.
func scenes() []api.Query { return []api.Query{example(), rich(), bare(), timed()} }

// clone answers q with no memory of it.
func clone(q api.Query) api.Query {
	q.Cols, q.Group, q.Aggs = slices.Clone(q.Cols), slices.Clone(q.Group), slices.Clone(q.Aggs)
	q.Filter, q.Project = slices.Clone(q.Filter), slices.Clone(q.Project)
	return q
}

var namePlain = regexp.MustCompile(`^[a-z][a-z0-9]{0,15}$`)

// isName tells whether s is a column's name; that of a line feed at the end isn't.
func isName(s string) bool { return namePlain.MatchString(s) && !strings.HasSuffix(s, "\n") }

// unlikePlain tells whether no two texts are the same.
func unlikePlain(l []string) bool {
	for i, s := range l {
		if slices.Contains(l[:i], s) {
			return false
		}
	}
	return true
}

func colsPlain(q api.Query) bool {
	var names []string
	for _, c := range q.Cols {
		if !isName(c.Name) || c.Kind < 1 || c.Kind > 3 {
			return false
		}
		names = append(names, c.Name)
	}
	return len(names) > 0 && len(names) <= 12 && unlikePlain(names)
}

func filterPlain(q api.Query) bool {
	for _, x := range q.Filter {
		if k, e := expr.Kind(x, q.Cols); e != 0 || k != 2 {
			return false
		}
	}
	return len(q.Filter) <= 1
}

func projectPlain(q api.Query) bool {
	if len(q.Project) == 0 || len(q.Project) > 12 {
		return false
	}
	var names []string
	for _, p := range q.Project {
		if _, e := expr.Kind(p.E, q.Cols); e != 0 || !isName(p.Name) {
			return false
		}
		names = append(names, p.Name)
	}
	return unlikePlain(names)
}

// kindPlain answers the kind of a projected column, or 0.
func kindPlain(q api.Query, name string) int {
	for _, p := range q.Project {
		if p.Name == name {
			k, _ := expr.Kind(p.E, q.Cols)
			return k
		}
	}
	return 0
}

func timePlain(q api.Query) bool {
	if q.Time == "" {
		return q.Delay == 0 && !q.Distinct
	}
	return kindPlain(q, q.Time) == 1 && 0 <= q.Delay && q.Delay <= 72057594037927936
}

// aggPlain answers the kind of an Agg's column, or 0, if it may not be.
func aggPlain(q api.Query, a api.Agg) int {
	k := kindPlain(q, a.Col)
	switch {
	case k == 0 || a.Kind < 1 || a.Kind > 5 || a.Kind == 3 && k != 1:
		return 0
	case a.Kind == 4 || a.Kind == 5:
		return k
	}
	return 1
}

func aggsPlain(q api.Query) bool {
	if len(q.Aggs) == 0 && len(q.Group) == 0 && q.Size == 0 && q.Slide == 0 {
		return true
	}
	if q.Time == "" || len(q.Aggs) > 6 {
		return false
	}
	if q.Slide < 1 || q.Size < q.Slide || q.Size > 72057594037927936 || (q.Size-1)/64 >= q.Slide {
		return false
	}
	names := []string{"wstart", "wend"}
	for _, g := range q.Group {
		if kindPlain(q, g) == 0 {
			return false
		}
		names = append(names, g)
	}
	for _, a := range q.Aggs {
		if aggPlain(q, a) == 0 || !isName(a.Name) {
			return false
		}
		names = append(names, a.Name)
	}
	return unlikePlain(names) && len(names) <= 12
}

func modePlain(q api.Query) bool {
	return q.Mode == 1 || q.Mode == 2 || q.Mode == 3 && len(q.Aggs) > 0
}

func checkPlain(q api.Query) api.Errno {
	switch {
	case !colsPlain(q):
		return 160
	case !filterPlain(q):
		return 161
	case !projectPlain(q):
		return 162
	case !timePlain(q):
		return 163
	case !aggsPlain(q):
		return 164
	case !modePlain(q):
		return 165
	}
	return 0
}

func projectedPlain(q api.Query) []api.Column {
	var l []api.Column
	for _, p := range q.Project {
		l = append(l, api.Column{Name: p.Name, Kind: kindPlain(q, p.Name)})
	}
	return l
}

func outPlain(q api.Query) []api.Column {
	if len(q.Aggs) == 0 {
		return projectedPlain(q)
	}
	l := []api.Column{{Name: "wstart", Kind: 1}, {Name: "wend", Kind: 1}}
	for _, g := range q.Group {
		l = append(l, api.Column{Name: g, Kind: kindPlain(q, g)})
	}
	for _, a := range q.Aggs {
		l = append(l, api.Column{Name: a.Name, Kind: aggPlain(q, a)})
	}
	return l
}

func placePlain(q api.Query) (int, bool) {
	for i, p := range q.Project {
		if q.Time != "" && p.Name == q.Time {
			return i, true
		}
	}
	return 0, false
}

// noNames answers texts that are no column's names.
func noNames() []string {
	return []string{"", "A", "1", "1a", "a_", "_", " a", "a ", "a\n", "a\x00", "\xff", "\u00e4", "aB", "a-b", "a,b", strings.Repeat("a", 17), strings.Repeat("a", 1000), "`", "{", "a`", "a{", "a/", "a:"}
}

// numbers answers numbers at the ends, and at each limit.
func numbers() []int64 {
	l := []int64{math.MinInt64, math.MinInt64 + 1, math.MaxInt64, math.MaxInt64 - 1}
	for _, n := range []int64{0, 10, 64, 640, 1 << 50, 1 << 56, 1 << 57, 1 << 60} {
		l = append(l, n-1, n, n+1, -n)
	}
	return l
}
