package expr

import (
	"math"
	"math/rand"
	"slices"
	"strings"

	"headgate/api"
)

// op answers the expression of an Op and its parts.
func op(op int, kids ...api.Expr) api.Expr { return api.Expr{Op: op, Kids: kids} }

func col(name string) api.Expr { return api.Expr{Op: 1, Name: name} }

func lit(v api.Value) api.Expr { return api.Expr{Op: 2, V: v} }

func null(kind string) api.Expr { return api.Expr{Op: 3, Name: kind} }

func number(n int64) api.Value { return api.Value{Kind: 1, N: n} }

func text(s string) api.Value { return api.Value{Kind: 3, S: s} }

func truth(b bool) api.Value { return plainBool(b) }

func whole(n int64) api.Expr { return lit(number(n)) }

// chain answers x within n others.
func chain(n int, x api.Expr) api.Expr {
	for range n {
		x = op(9, x)
	}
	return x
}

// tree answers an expression of 2^(n+1) - 1 expressions, within n others at most.
func tree(n int) api.Expr {
	if n == 0 {
		return whole(1)
	}
	return op(4, tree(n-1), tree(n-1))
}

// endless answers an expression that stands within itself, as often as Kids says.
func endless(kids int) api.Expr {
	l := make([]api.Expr, kids)
	for i := range l {
		l[i] = api.Expr{Op: 9, Kids: l}
	}
	return l[0]
}

// doubled answers an expression of more expressions than can be gone over.
func doubled() api.Expr {
	x := whole(1)
	for range 100 {
		x = op(4, x, x)
	}
	return x
}

// copyOf answers e with no memory of it.
func copyOf(e api.Expr) api.Expr {
	var l []api.Expr
	for _, kid := range e.Kids {
		l = append(l, copyOf(kid))
	}
	e.Kids = l
	return e
}

// same answers whether both are the same expression.
func same(a, b api.Expr) bool {
	return a.Op == b.Op && a.Name == b.Name && a.V == b.V && slices.EqualFunc(a.Kids, b.Kids, same)
}

// columns answers columns of each kind, two of each.
func columns() []api.Column {
	return []api.Column{{Name: "i", Kind: 1}, {Name: "b", Kind: 2}, {Name: "s", Kind: 3}, {Name: "j", Kind: 1}, {Name: "s2", Kind: 3}, {Name: "b2", Kind: 2}}
}

func noColumns() [][]api.Column {
	return [][]api.Column{nil, {}, {{}}, {{Name: "i"}}, {{Name: "i", Kind: 4}}, {{Name: "I", Kind: 1}}, {{Name: "i", Kind: 1}, {Name: "i", Kind: 1}}, {{Name: "i", Kind: 1}, {Name: "", Kind: 1}}, slices.Repeat(columns(), 3)}
}

// valuesOf answers right values of a kind, and null.
func valuesOf(kind int) []api.Value {
	l := []api.Value{{}}
	switch kind {
	case 1:
		for _, n := range []int64{0, 1, -1, 2, -2, 3, 7, -7, 10, 127, 128, 1 << 31, 3037000499, 3037000500, -3037000500, 1 << 53, 1<<53 + 1, math.MaxInt64, math.MaxInt64 - 1, math.MinInt64, math.MinInt64 + 1, math.MaxInt64 / 2, math.MinInt64 / 2} {
			l = append(l, number(n))
		}
	case 2:
		l = append(l, truth(false), truth(true))
	case 3:
		for _, s := range []string{"", "a", "b", "ab", "aa", "A", "\x00", "a\x00", "\xff", "\u00e4", "\u20ac", "int", "true", "10", "9", strings.Repeat("x", 199), strings.Repeat("x", 200), strings.Repeat("\u00e4", 100)} {
			l = append(l, text(s))
		}
	}
	return l
}

// wrongValues answers values that aren't right.
func wrongValues() []api.Value {
	long := strings.Repeat("x", 201)
	return []api.Value{
		{N: 1}, {S: "x"}, {N: -1, S: "x"}, {Kind: 1, S: "x"}, {Kind: 1, N: 1, S: "1"}, {Kind: 2, N: 2}, {Kind: 2, N: -1}, {Kind: 2, S: "x"}, {Kind: 2, N: 1, S: "x"}, {Kind: 3, N: 1}, {Kind: 3, N: 1, S: "x"},
		{Kind: 3, S: long}, {Kind: 3, S: strings.Repeat("\u00e4", 101)}, {Kind: 4}, {Kind: -1}, {Kind: 4, N: 1}, {Kind: 5, S: "x"}, {Kind: 257, N: 1}, {Kind: 1<<32 + 1}, {Kind: math.MinInt}, {Kind: math.MaxInt},
	}
}

// mistaken answers an expression of a kind that has an error over each row: ErrNumZero, or ErrNumOver.
func mistaken(kind int, over bool) api.Expr {
	x := op(7, whole(1), whole(0))
	if over {
		x = op(9, whole(math.MinInt64))
	}
	switch kind {
	case 2:
		return op(10, x, whole(1))
	case 3:
		return op(18, op(10, whole(1), x), lit(text("a")), lit(text("b")))
	}
	return x
}

// partsOf answers expressions of a kind: literals, null, columns, and such as have errors.
func partsOf(kind int) []api.Expr {
	l := []api.Expr{null([]string{"int", "bool", "text"}[kind-1]), mistaken(kind, false), mistaken(kind, true)}
	for _, v := range valuesOf(kind)[1:] {
		l = append(l, lit(v))
	}
	for _, c := range columns() {
		if c.Kind == kind {
			l = append(l, col(c.Name))
		}
	}
	return l
}

// A grower grows expressions, and rows, by chance that is the same each time.
type grower struct{ *rand.Rand }

func newGrower(seed int64) grower { return grower{rand.New(rand.NewSource(seed))} }

func pick[T any](g grower, l []T) T { return l[g.Intn(len(l))] }

// ofKind answers an expression of the kind, of a depth of at most n.
func (g grower) ofKind(kind, n int) api.Expr {
	if n == 0 || g.Intn(6) == 0 {
		return pick(g, partsOf(kind))
	}
	n--
	some := 1 + g.Intn(3)
	var kids []int
	o := pick(g, [][]int{{4, 5, 6, 7, 8, 9, 18, 19, 20}, {10, 11, 12, 13, 14, 15, 16, 17, 18, 19}, {18, 19}}[kind-1])
	switch o {
	case 4, 5, 6, 7, 8:
		kids = []int{1, 1}
	case 9:
		kids = []int{1}
	case 10, 11, 12, 13:
		kids = []int{some, some}
	case 14, 15:
		kids = []int{2, 2}
	case 16:
		kids = []int{2}
	case 17:
		kids = []int{some}
	case 18:
		kids = []int{2, kind, kind}
	case 19:
		kids = []int{kind, kind}
	case 20:
		kids = []int{3}
	}
	e := op(o)
	for _, k := range kids {
		e.Kids = append(e.Kids, g.ofKind(k, n))
	}
	return e
}

// anything answers an expression of whatever Ops and Kids, of a depth of at most n.
func (g grower) anything(n int) api.Expr {
	if n == 0 || g.Intn(4) == 0 {
		if g.Intn(20) > 0 {
			return pick(g, partsOf(1+g.Intn(3)))
		}
		return pick(g, []api.Expr{col("x"), col("int"), null("i"), null(""), lit(api.Value{}), {}})
	}
	e := api.Expr{Op: 4 + g.Intn(17)}
	if g.Intn(200) == 0 {
		e.Op = g.Intn(24) - 1
	}
	parts := max(plainParts(e.Op), 0)
	if g.Intn(200) == 0 {
		parts = g.Intn(5)
	}
	for range parts {
		e.Kids = append(e.Kids, g.anything(n-1))
	}
	return e
}

func (g grower) row(cols []api.Column) []api.Value {
	var l []api.Value
	for _, c := range cols {
		l = append(l, pick(g, valuesOf(c.Kind)))
	}
	return l
}
