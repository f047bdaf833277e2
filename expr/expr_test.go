package expr

import (
	"math"
	"slices"
	"strings"
	"testing"

	"headgate/api"
)

// The chapter's examples, and the like.
func TestExamples(t *testing.T) {
	zero := op(7, whole(1), whole(0))
	for i, c := range []struct {
		e api.Expr
		v api.Value
		f api.Errno
	}{
		{op(14, null("bool"), lit(truth(false))), truth(false), api.OK},
		{op(15, null("bool"), lit(truth(false))), api.Value{}, api.OK},
		{op(10, zero, whole(1)), api.Value{}, api.ErrNumZero},
		{op(18, lit(truth(false)), zero, whole(2)), number(2), api.OK},
	} {
		for _, cols := range [][]api.Column{columns(), columns()[:1]} {
			if v, f := Worth(c.e, cols, make([]api.Value, len(cols))); v != c.v || f != c.f {
				t.Errorf("P13.3: example %d: %v, %d", i, v, f)
			}
		}
	}
}

// P13.1
func TestNodes(t *testing.T) {
	for n := range 400 {
		want := min(n+1, 257)
		for i, e := range []api.Expr{chain(n, whole(1)), op(4, slices.Repeat([]api.Expr{whole(1)}, n)...), op(21, slices.Repeat([]api.Expr{{}}, n)...)} {
			if k := Nodes(e); k != want {
				t.Fatalf("P13.1: Nodes of %d expressions (%d): %d", n+1, i, k)
			}
		}
		e := op(18, chain(n/3, whole(1)), op(-7, slices.Repeat([]api.Expr{col("x")}, n/2)...), whole(5))
		if k := Nodes(e); k != min(plainNodes(e), 257) {
			t.Fatalf("P13.1: Nodes of %d expressions: %d", plainNodes(e), k)
		}
	}
	for n := range 12 {
		if k := Nodes(tree(n)); k != min(2<<n-1, 257) {
			t.Errorf("P13.1: Nodes of a tree of %d: %d", 2<<n-1, k)
		}
	}
	if k := Nodes(api.Expr{}); k != 1 {
		t.Errorf("P13.1: Nodes of nothing: %d", k)
	}
}

// R1, P13.1: expressions of more than can be gone over, and such as stand within themselves.
func TestNoEnd(t *testing.T) {
	for i, e := range []api.Expr{endless(1), endless(2), endless(5), doubled(), op(4, slices.Repeat([]api.Expr{whole(1)}, 1<<20)...), chain(1<<15, whole(1)), op(20, endless(1)), op(14, lit(truth(false)), endless(2)), {Op: 1, Name: "i", Kids: endless(3).Kids}} {
		if n := Nodes(e); n != 257 {
			t.Errorf("P13.1: Nodes %d: %d", i, n)
		}
		if f := Check(e); f != 131 {
			t.Errorf("P13.1: Check %d: %d", i, f)
		}
		if k, f := Kind(e, columns()); k != 0 || f != 131 {
			t.Errorf("P13.2: Kind %d: %d, %d", i, k, f)
		}
		if v, f := Worth(e, columns(), make([]api.Value, 6)); v != (api.Value{}) || f != 131 {
			t.Errorf("P13.3: Worth %d: %v, %d", i, v, f)
		}
		if l := Cols(e); len(l) != 0 {
			t.Errorf("P13.4: Cols %d: %v", i, l)
		}
		for x := range Walk(e) {
			t.Fatalf("P13.4: Walk %d: %v", i, x)
		}
	}
}

// P13.1: how many expressions, and how deep, at both sides of the limits, wherever it is deep, and whatever else is wrong.
func TestCheckDeep(t *testing.T) {
	for n := range 40 {
		want := api.OK
		if n > 16 {
			want = 131
		}
		for _, leaf := range []api.Expr{whole(1), col("a"), null("text")} {
			if f := Check(chain(n, leaf)); f != want {
				t.Errorf("P13.1: Check within %d: %d", n, f)
			}
		}
		if f := Check(chain(n, api.Expr{Op: 21})); f != max(want, 130) {
			t.Errorf("P13.1: Check of a wrong one within %d: %d", n, f)
		}
		for _, o := range []int{4, 14, 18, 19} {
			for at := range plainParts(o) {
				kids := slices.Repeat([]api.Expr{whole(1)}, plainParts(o))
				kids[at] = chain(n, whole(1))
				want := api.OK
				if n > 15 {
					want = 131
				}
				if f := Check(op(o, kids...)); f != want {
					t.Errorf("P13.1: Check of %d with %d in the part %d: %d", o, n, at, f)
				}
			}
		}
	}
	full := tree(7)
	if Check(full) != api.OK || Check(op(9, full)) != api.OK || Check(op(9, op(9, full))) != 131 || Check(op(4, full, whole(1))) != 131 {
		t.Error("P13.1: Check of 255, 256, 257, 257 expressions")
	}
	if Check(op(9, tree(7), whole(1))) != 131 || Check(op(4, slices.Repeat([]api.Expr{whole(1)}, 255)...)) != 130 || Check(op(4, slices.Repeat([]api.Expr{whole(1)}, 256)...)) != 131 {
		t.Error("P13.1: Check of too many Kids")
	}
}

// forms answers expressions of all Ops with all that they might have, without Kids.
func forms() []api.Expr {
	ops := []int{-1, -4, 21, 22, 256, 257, 258, 260, 1 << 32, 1<<32 + 2, math.MinInt, math.MinInt + 1, math.MaxInt}
	for o := range 21 {
		ops = append(ops, o)
	}
	names := []string{"", "a", "int", "bool", "text", "int ", "Int", "null", "ints", "tex", "A", "9", "a9", "a_", " ", "\x00", "\xff", "a\u00e4", strings.Repeat("z", 16), strings.Repeat("z", 17), "a" + strings.Repeat("0", 15), "a" + strings.Repeat("0", 300)}
	values := slices.Concat(valuesOf(1)[:4], valuesOf(2), valuesOf(3), wrongValues())
	var l []api.Expr
	for _, o := range ops {
		for _, name := range names {
			for _, v := range values {
				l = append(l, api.Expr{Op: o, Name: name, V: v})
			}
		}
	}
	return l
}

// P13.1: all Ops, with all that they might have, and 0 to 4 Kids, alone and within others.
func TestCheckForm(t *testing.T) {
	kids := []api.Expr{whole(1), col("a"), op(9, whole(2)), null("bool")}
	right := 0
	for _, e := range forms() {
		for n := range len(kids) + 1 {
			e.Kids = kids[:n]
			want := plainCheck(e)
			if want == api.OK {
				right++
			}
			for i, x := range []api.Expr{e, op(9, e), op(4, whole(1), e), op(18, e, whole(1), whole(1)), op(18, whole(1), op(19, whole(1), e), whole(1)), op(18, whole(1), whole(1), chain(10, e))} {
				if f := Check(x); f != want {
					t.Fatalf("P13.1: Check of %v (%d): %d, not %d", x, i, f, want)
				}
			}
		}
	}
	if right < 60 {
		t.Errorf("%d expressions are well formed", right)
	}
	// R3
	if Check(api.Expr{Op: 2, V: number(1), Kids: []api.Expr{}}) != api.OK {
		t.Error("P13.1: Check of an empty list of Kids")
	}
}

// P13.1, P13.2, P13.3: where several things are wrong, the first that the chapter names is told.
func TestOrderOfErrors(t *testing.T) {
	deep, wrong, unnamed, untyped, mistake := chain(17, whole(1)), op(9), col("x"), op(9, lit(text("a"))), mistaken(1, false)
	errors := []struct {
		e api.Expr
		f api.Errno
	}{{deep, 131}, {wrong, 130}, {unnamed, 132}, {untyped, 133}, {mistake, 11}}
	for i, a := range errors {
		for _, b := range errors[i:] {
			for _, e := range []api.Expr{op(4, a.e, b.e), op(4, b.e, a.e), op(19, b.e, op(5, whole(1), a.e))} {
				want := a.f
				// Of two that aren't of their kinds the first one from the left is told.
				if want == 132 && e.Kids[0].Op == 9 {
					want = 133
				}
				if k, f := Kind(e, columns()); want != 11 && (k != 0 || f != want) || want == 11 && (k != 1 || f != api.OK) {
					t.Errorf("P13.2: Kind of %d and %d: %d, %d", a.f, b.f, k, f)
				}
				for _, row := range [][]api.Value{nil, make([]api.Value, 5), make([]api.Value, 7), {{}, {}, {}, {}, {}, number(1)}, make([]api.Value, 6)} {
					all := want
					if want == 11 && (len(row) != 6 || row[5].Kind == 1) {
						all = 122
					}
					if v, f := Worth(e, columns(), row); v != (api.Value{}) || f != all {
						t.Errorf("P13.3: Worth of %d and %d over %v: %v, %d", a.f, b.f, row, v, f)
					}
				}
				for _, cols := range noColumns() {
					if k, f := Kind(e, cols); k != 0 || f != 120 {
						t.Errorf("P13.2: Kind over %v: %d, %d", cols, k, f)
					}
					if v, f := Worth(e, cols, make([]api.Value, len(cols))); v != (api.Value{}) || f != 120 {
						t.Errorf("P13.3: Worth over %v: %v, %d", cols, v, f)
					}
				}
			}
		}
	}
	for _, e := range []api.Expr{whole(1), col("i"), {}} {
		for _, cols := range noColumns() {
			if k, f := Kind(e, cols); k != 0 || f != 120 {
				t.Errorf("P13.2: Kind over %v: %d, %d", cols, k, f)
			}
		}
	}
}

// P13.2: all Ops over all kinds of parts, and such as have errors.
func TestKind(t *testing.T) {
	parts := []api.Expr{col("i"), col("b"), col("s"), whole(1), lit(truth(true)), lit(text("")), null("int"), null("bool"), null("text"), col("x"), op(9, col("s")), op(12, whole(1), col("j")), op(18, col("b"), col("s"), col("s2"))}
	tried := 0
	try := func(e api.Expr) {
		want, wrong := plainKind(e, columns())
		if k, f := Kind(e, columns()); k != want || f != wrong {
			t.Fatalf("P13.2: Kind of %v: %d, %d, not %d, %d", e, k, f, want, wrong)
		}
		if _, f := Worth(e, columns(), make([]api.Value, 6)); wrong != 0 && f != wrong {
			t.Fatalf("P13.3: Worth of %v: %d, not %d", e, f, wrong)
		}
		tried++
	}
	for _, a := range parts {
		try(a)
		for o := range 21 {
			if plainParts(o) == 1 {
				try(op(o, a))
			}
			for _, b := range parts {
				if plainParts(o) == 2 {
					try(op(o, a, b))
				}
				for _, c := range parts {
					if plainParts(o) == 3 {
						try(op(o, a, b, c))
					}
				}
			}
		}
	}
	if tried != 13+4*13+12*13*13+13*13*13 {
		t.Errorf("P13.2: %d were tried", tried)
	}
}

// P13.2: columns by their names, wherever they stand.
func TestKindOfColumns(t *testing.T) {
	for n := 1; n <= 12; n++ {
		var cols []api.Column
		for i := range n {
			cols = append(cols, api.Column{Name: "c" + strings.Repeat("x", i), Kind: 1 + i%3})
		}
		for i, c := range cols {
			if k, f := Kind(col(c.Name), cols); k != 1+i%3 || f != api.OK {
				t.Errorf("P13.2: Kind of the column %d of %d: %d, %d", i, n, k, f)
			}
			row := make([]api.Value, n)
			row[i] = valuesOf(c.Kind)[2]
			if v, f := Worth(col(c.Name), cols, row); v != row[i] || f != api.OK {
				t.Errorf("P13.3: Worth of the column %d of %d: %v, %d", i, n, v, f)
			}
		}
		for _, name := range []string{"d", "cy", "x", "c" + strings.Repeat("x", n), "int"} {
			if k, f := Kind(col(name), cols); k != 0 || f != 132 {
				t.Errorf("P13.2: Kind of %q: %d, %d", name, k, f)
			}
		}
	}
}

// P13.1, P13.2, P13.4: expressions of whatever.
func TestAnything(t *testing.T) {
	g := newGrower(1)
	told := make(map[api.Errno]int)
	for range 30000 {
		e := g.anything(1 + g.Intn(5))
		was, want := copyOf(e), plainCheck(e)
		if n := Nodes(e); n != min(plainNodes(e), 257) {
			t.Fatalf("P13.1: Nodes of %v: %d", e, n)
		}
		if f := Check(e); f != want {
			t.Fatalf("P13.1: Check of %v: %d, not %d", e, f, want)
		}
		var names []string
		var all []api.Expr
		kind := 0
		if want == api.OK {
			kind, want = plainKind(e, columns())
			names, all = plainCols(e), plainWalk(e)
		}
		told[want]++
		if k, f := Kind(e, columns()); k != kind || f != want {
			t.Fatalf("P13.2: Kind of %v: %d, %d, not %d, %d", e, k, f, kind, want)
		}
		if l := Cols(e); !slices.Equal(l, names) {
			t.Fatalf("P13.4: Cols of %v: %v", e, l)
		}
		if l := slices.Collect(Walk(e)); !slices.EqualFunc(l, all, same) {
			t.Fatalf("P13.4: Walk of %v: %v", e, l)
		}
		if !same(e, was) {
			t.Fatalf("R4: %v became %v", was, e)
		}
	}
	for _, f := range []api.Errno{0, 130, 132, 133} {
		if told[f] < 100 {
			t.Errorf("the error %d was told %d times", f, told[f])
		}
	}
}

// P13.4
func TestCols(t *testing.T) {
	for _, c := range []struct {
		e    api.Expr
		want []string
	}{
		{col("a"), []string{"a"}},
		{whole(1), nil},
		{null("int"), nil},
		{lit(text("a")), nil},
		{op(4, col("a"), col("a")), []string{"a"}},
		{op(4, col("b"), col("a")), []string{"a", "b"}},
		{op(18, col("c"), op(19, col("a"), col("c")), op(9, col("b"))), []string{"a", "b", "c"}},
		{op(18, col("b"), col("a10"), op(4, col("a9"), col("a"))), []string{"a", "a10", "a9", "b"}},
		{op(14, lit(truth(false)), op(10, col("z"), null("text"))), []string{"z"}},
		{op(9, lit(text("x"))), nil},
		{op(4, col("a")), nil},
		{op(4, col("a"), col("A")), nil},
		{chain(16, col("a")), []string{"a"}},
		{chain(17, col("a")), nil},
	} {
		if l := Cols(c.e); !slices.Equal(l, c.want) {
			t.Errorf("P13.4: Cols of %v: %q, not %q", c.e, l, c.want)
		}
	}
}

// P13.4
func TestWalk(t *testing.T) {
	a, b, c := col("a"), op(9, whole(4)), null("int")
	e := op(18, op(17, a), op(19, b, c), a)
	want := []api.Expr{e, op(17, a), a, op(19, b, c), b, whole(4), c, a}
	if l := slices.Collect(Walk(e)); !slices.EqualFunc(l, want, same) {
		t.Errorf("P13.4: Walk: %v", l)
	}
	// Whoever ranges over it may end at any moment, and begin anew.
	walk := Walk(e)
	for n := range len(want) + 1 {
		var l []api.Expr
		for x := range walk {
			if len(l) == n {
				break
			}
			l = append(l, x)
		}
		if !slices.EqualFunc(l, want[:n], same) {
			t.Errorf("P13.4: the first %d of Walk: %v", n, l)
		}
	}
	n := 0
	for range walk {
		for x := range walk {
			if n++; x.Op == 19 {
				break
			}
		}
	}
	if n != 4*len(want) {
		t.Errorf("P13.4: a Walk within another one: %d", n)
	}
	if n := len(slices.Collect(Walk(op(9, tree(7))))); n != 256 {
		t.Errorf("P13.4: Walk of 256: %d", n)
	}
	for _, e := range []api.Expr{{}, op(9), op(4, a), op(9, op(9, a, a)), chain(17, a), op(4, tree(7), a)} {
		for x := range Walk(e) {
			t.Errorf("P13.4: Walk of %v: %v", e, x)
		}
	}
}

// R4: what a walk tells has no memory of what was handed in, of the walk, or of what else is told.
func TestWalkSharesNothing(t *testing.T) {
	g := newGrower(2)
	for range 300 {
		e := g.ofKind(1+g.Intn(3), 4)
		was := plainWalk(copyOf(e))
		if Check(e) != api.OK {
			continue
		}
		walk := Walk(e)
		var spoil func(l []api.Expr)
		spoil = func(l []api.Expr) {
			for i := range l {
				spoil(l[i].Kids)
				l[i] = api.Expr{Op: 99}
			}
		}
		for range 2 {
			var l []api.Expr
			for x := range walk {
				l = append(l, x)
				// What is told is spoilt at once, but each third one.
				if len(l)%3 != 0 {
					spoil(x.Kids)
				}
			}
			for i, x := range l {
				if (i+1)%3 == 0 && !same(x, was[i]) || x.Op != was[i].Op {
					t.Fatalf("R4: what was told of %v became %v", was[i], x)
				}
			}
			if len(l) != len(was) || !same(e, was[0]) {
				t.Fatalf("R4: %v became %v", was[0], e)
			}
		}
		spoil(e.Kids)
		if l := slices.Collect(walk); !slices.EqualFunc(l, was, same) {
			t.Fatalf("R4: a walk over %v became %v", was[0], l)
		}
	}
}

// R4: what is handed in stays, spare room behind its end too.
func TestArgumentsStay(t *testing.T) {
	g := newGrower(3)
	for range 300 {
		e, cols := g.ofKind(1+g.Intn(3), 4), columns()
		row := g.row(cols)
		kids, spare := slices.Clip(slices.Clone(e.Kids)), append(slices.Clone(e.Kids), col("behind"), col("behind"))
		e.Kids = spare[:len(kids)]
		wasRow, wasKids := slices.Clone(row), copyOf(e).Kids
		row = append(row, number(5))
		cols = append(cols, api.Column{Name: "behind"})
		for range 2 {
			Nodes(e)
			Check(e)
			Cols(e)
			for range Walk(e) {
			}
			Kind(e, cols[:6])
			a, f := Worth(e, cols[:6], row[:6])
			if b, h := Worth(e, cols[:6], row[:6]); a != b || f != h {
				t.Fatalf("R6: Worth of %v: %v, %d, then %v, %d", e, a, f, b, h)
			}
		}
		if !slices.Equal(cols[:6], columns()) || cols[6].Name != "behind" || !slices.Equal(row[:6], wasRow) || row[6] != number(5) {
			t.Fatalf("R4: %v and %v became %v and %v", columns(), wasRow, cols, row)
		}
		if !slices.EqualFunc(e.Kids, wasKids, same) || spare[len(kids)].Name != "behind" || spare[len(kids)+1].Name != "behind" {
			t.Fatalf("R4: %v became %v", wasKids, spare)
		}
	}
	names := Cols(op(4, col("a"), col("b")))
	names[0] = "spoilt"
	if l := Cols(op(4, col("a"), col("b"))); !slices.Equal(l, []string{"a", "b"}) {
		t.Errorf("R4: Cols: %v", l)
	}
}
