package expr

import (
	"math"
	"slices"
	"strings"
	"testing"

	"headgate/api"
)

// asPlain holds a worth against the chapter's words; the expression has a kind.
func asPlain(t *testing.T, e api.Expr, row []api.Value) {
	t.Helper()
	kind, wrong := plainKind(e, columns())
	if wrong != api.OK {
		t.Fatalf("%v has no kind", e)
	}
	want, f := plainWorth(e, columns(), row)
	v, g := Worth(e, columns(), row)
	if v != want || g != f {
		t.Fatalf("P13.3: Worth of %v over %v: %v, %d, not %v, %d", e, row, v, g, want, f)
	}
	if v.Kind != 0 && v.Kind != kind {
		t.Fatalf("P13.5: Worth of %v over %v: %v, which isn't of the kind %d", e, row, v, kind)
	}
}

// rows answers rows of columns, with all nulls and with none.
func rows() [][]api.Value {
	return [][]api.Value{
		make([]api.Value, 6),
		{number(7), truth(true), text("ab"), number(-3), text("b"), truth(false)},
		{number(math.MinInt64), truth(false), text(""), {}, text("\xff\x00"), {}},
	}
}

// P13.3: all Ops over all parts of their kinds, with null, and with errors at each place.
func TestWorthOfAllParts(t *testing.T) {
	for _, row := range rows() {
		for kind := 1; kind <= 3; kind++ {
			for _, a := range partsOf(kind) {
				asPlain(t, a, row)
				asPlain(t, op(17, a), row)
				for o, of := range map[int]int{9: 1, 16: 2, 20: 3} {
					if of == kind {
						asPlain(t, op(o, a), row)
					}
				}
				for _, b := range partsOf(kind) {
					for _, o := range []int{10, 11, 12, 13, 19} {
						asPlain(t, op(o, a, b), row)
					}
					for o := 4; o <= 8 && kind == 1; o++ {
						asPlain(t, op(o, a, b), row)
					}
					for o := 14; o <= 15 && kind == 2; o++ {
						asPlain(t, op(o, a, b), row)
					}
					for _, c := range partsOf(2) {
						asPlain(t, op(18, c, a, b), row)
					}
				}
			}
		}
	}
}

// P13.3: what an Op makes of its parts, written out by hand.
func TestWorthByHand(t *testing.T) {
	yes, no, none := truth(true), truth(false), api.Value{}
	of := func(v api.Value) api.Expr {
		if v == none {
			return null("bool")
		}
		return lit(v)
	}
	truths := []api.Value{no, none, yes}
	for i, a := range truths {
		for j, b := range truths {
			// In the order false, null, true, and is the least, or the greatest.
			and, or := truths[min(i, j)], truths[max(i, j)]
			if v, f := Worth(op(14, of(a), of(b)), columns(), rows()[0]); v != and || f != api.OK {
				t.Errorf("P13.3: %v and %v: %v, %d", a, b, v, f)
			}
			if v, f := Worth(op(15, of(a), of(b)), columns(), rows()[0]); v != or || f != api.OK {
				t.Errorf("P13.3: %v or %v: %v, %d", a, b, v, f)
			}
		}
	}
	for i, c := range []struct {
		e api.Expr
		v api.Value
		f api.Errno
	}{
		{op(4, whole(2), whole(3)), number(5), 0},
		{op(5, whole(2), whole(3)), number(-1), 0},
		{op(6, whole(2), whole(-3)), number(-6), 0},
		{op(7, whole(-7), whole(2)), number(-3), 0},
		{op(8, whole(-7), whole(2)), number(-1), 0},
		{op(4, whole(math.MaxInt64), whole(1)), none, 10},
		{op(5, whole(math.MinInt64), whole(1)), none, 10},
		{op(6, whole(1<<32), whole(1<<31)), none, 10},
		{op(7, whole(math.MinInt64), whole(-1)), none, 10},
		{op(8, whole(math.MinInt64), whole(-1)), number(0), 0},
		{op(7, whole(0), whole(0)), none, 11},
		{op(8, whole(1), whole(0)), none, 11},
		{op(7, null("int"), whole(0)), none, 0},
		{op(7, whole(1), null("int")), none, 0},
		{op(4, null("int"), op(7, whole(1), whole(0))), none, 11},
		{op(4, op(7, whole(1), whole(0)), null("int")), none, 11},
		{op(10, null("int"), op(7, whole(1), whole(0))), none, 11},
		{op(4, op(7, whole(1), whole(0)), op(9, whole(math.MinInt64))), none, 11},
		{op(4, op(9, whole(math.MinInt64)), op(7, whole(1), whole(0))), none, 10},
		{op(9, whole(5)), number(-5), 0},
		{op(9, whole(0)), number(0), 0},
		{op(9, null("int")), none, 0},
		{op(10, whole(2), whole(2)), yes, 0},
		{op(10, whole(2), whole(3)), no, 0},
		{op(10, null("int"), null("int")), none, 0},
		{op(11, whole(2), whole(2)), no, 0},
		{op(11, whole(2), whole(3)), yes, 0},
		{op(11, null("text"), lit(text("a"))), none, 0},
		{op(12, whole(-2), whole(1)), yes, 0},
		{op(12, whole(1), whole(1)), no, 0},
		{op(12, whole(2), whole(1)), no, 0},
		{op(13, whole(-2), whole(1)), yes, 0},
		{op(13, whole(1), whole(1)), yes, 0},
		{op(13, whole(2), whole(1)), no, 0},
		{op(12, lit(text("10")), lit(text("9"))), yes, 0},
		{op(12, lit(text("a")), lit(text("ab"))), yes, 0},
		{op(12, lit(text("z")), lit(text("\u00e4"))), yes, 0},
		{op(13, lit(text("b")), lit(text("ab"))), no, 0},
		{op(12, lit(no), lit(yes)), yes, 0},
		{op(13, lit(yes), lit(no)), no, 0},
		{op(16, lit(yes)), no, 0},
		{op(16, lit(no)), yes, 0},
		{op(16, null("bool")), none, 0},
		{op(17, null("text")), yes, 0},
		{op(17, lit(text(""))), no, 0},
		{op(17, whole(0)), no, 0},
		{op(17, op(7, whole(1), whole(0))), none, 11},
		{op(18, lit(yes), whole(1), whole(2)), number(1), 0},
		{op(18, lit(no), whole(1), whole(2)), number(2), 0},
		{op(18, null("bool"), whole(1), whole(2)), number(2), 0},
		{op(18, lit(yes), null("int"), whole(2)), none, 0},
		{op(19, whole(1), whole(2)), number(1), 0},
		{op(19, null("int"), whole(2)), number(2), 0},
		{op(19, null("int"), null("int")), none, 0},
		{op(19, lit(no), lit(yes)), no, 0},
		{op(20, lit(text(""))), number(0), 0},
		{op(20, lit(text("\u00e4\u20ac"))), number(5), 0},
		{op(20, lit(text(strings.Repeat("x", 200)))), number(200), 0},
		{op(20, null("text")), none, 0},
	} {
		if v, f := Worth(c.e, columns(), rows()[0]); v != c.v || f != c.f {
			t.Errorf("P13.3: Worth %d of %v: %v, %d, not %v, %d", i, c.e, v, f, c.v, c.f)
		}
	}
}

// P13.3: a part that isn't asked for may have an error; one that is asked for has it for all around it.
func TestWhatIsAskedFor(t *testing.T) {
	yes, no, wrong := lit(truth(true)), lit(truth(false)), mistaken(2, false)
	for i, c := range []struct {
		e api.Expr
		v api.Value
		f api.Errno
	}{
		{op(14, no, wrong), truth(false), 0},
		{op(14, yes, wrong), api.Value{}, 11},
		{op(14, null("bool"), wrong), api.Value{}, 11},
		{op(14, wrong, no), api.Value{}, 11},
		{op(15, yes, wrong), truth(true), 0},
		{op(15, no, wrong), api.Value{}, 11},
		{op(15, null("bool"), wrong), api.Value{}, 11},
		{op(15, wrong, yes), api.Value{}, 11},
		{op(18, yes, no, wrong), truth(false), 0},
		{op(18, no, wrong, yes), truth(true), 0},
		{op(18, null("bool"), wrong, yes), truth(true), 0},
		{op(18, yes, wrong, yes), api.Value{}, 11},
		{op(18, no, yes, wrong), api.Value{}, 11},
		{op(18, null("bool"), yes, wrong), api.Value{}, 11},
		{op(18, wrong, yes, yes), api.Value{}, 11},
		{op(19, no, wrong), truth(false), 0},
		{op(19, null("bool"), wrong), api.Value{}, 11},
		{op(19, wrong, no), api.Value{}, 11},
	} {
		e := c.e
		for range 5 {
			if v, f := Worth(e, columns(), rows()[1]); v != c.v || f != c.f {
				t.Errorf("P13.3: Worth %d of %v: %v, %d, not %v, %d", i, e, v, f, c.v, c.f)
			}
			// The same, twice turned.
			e = op(16, op(16, e))
		}
		if v, f := Worth(op(18, op(14, no, e), wrong, yes), columns(), rows()[1]); v != truth(true) || f != api.OK {
			t.Errorf("P13.3: Worth %d where it isn't asked for: %v, %d", i, v, f)
		}
	}
}

// P13.3, P13.5: expressions of all sizes over rows of all values.
func TestWorthOfGrown(t *testing.T) {
	g := newGrower(4)
	worths := 0
	for range 8000 {
		e := g.ofKind(1+g.Intn(3), 1+g.Intn(5))
		if plainCheck(e) != api.OK {
			continue
		}
		for range 3 {
			row := g.row(columns())
			asPlain(t, e, row)
			if v, f := Worth(e, columns(), row); f == api.OK && v.Kind != 0 {
				worths++
			}
		}
	}
	if worths < 5000 {
		t.Errorf("%d worths were values", worths)
	}
}

// P13.5: what hangs on no column is worth the same over every row.
func TestWorthWithoutColumns(t *testing.T) {
	g := newGrower(5)
	for range 10000 {
		e := g.ofKind(1+g.Intn(3), 3)
		if plainCheck(e) != api.OK || len(plainCols(e)) > 0 {
			continue
		}
		want, wrong := Worth(e, columns(), rows()[0])
		for _, cols := range [][]api.Column{columns(), columns()[2:], {{Name: "other", Kind: 2}}} {
			if v, f := Worth(e, cols, g.row(cols)); v != want || f != wrong {
				t.Fatalf("P13.5: Worth of %v: %v, %d, then %v, %d", e, want, wrong, v, f)
			}
		}
	}
}

// P13.3: the deepest expression, and the greatest.
func TestWorthAtTheLimits(t *testing.T) {
	for _, c := range []struct {
		e api.Expr
		n int64
	}{{chain(16, col("i")), 7}, {chain(15, col("i")), -7}, {tree(7), 128}, {op(9, tree(7)), -128}} {
		if v, f := Worth(c.e, columns(), rows()[1]); v != number(c.n) || f != api.OK {
			t.Errorf("P13.3: Worth: %v, %d, not %d", v, f, c.n)
		}
	}
}

// P13.3: rows that aren't of the columns, whatever is asked.
func TestWrongRows(t *testing.T) {
	right := rows()[1]
	asked := []api.Expr{whole(1), col("i"), col("s"), null("int"), mistaken(1, false)}
	wrong := [][]api.Value{nil, {}, append(slices.Clone(right), api.Value{}), slices.Repeat(right, 2), slices.Repeat(right, 1000)}
	for n := range right {
		wrong = append(wrong, right[:n])
	}
	for at, c := range columns() {
		values := wrongValues()
		for k := 1; k <= 3; k++ {
			if k != c.Kind {
				values = append(values, valuesOf(k)[1:]...)
			}
		}
		for _, v := range values {
			row := slices.Clone(right)
			row[at] = v
			wrong = append(wrong, row)
		}
	}
	for _, row := range wrong {
		for _, e := range asked {
			if v, f := Worth(e, columns(), row); v != (api.Value{}) || f != 122 {
				t.Fatalf("P13.3: Worth of %v over %v: %v, %d", e, row, v, f)
			}
		}
	}
	for at := range right {
		row := slices.Clone(right)
		row[at] = api.Value{}
		for _, e := range asked {
			asPlain(t, e, row)
		}
	}
}
