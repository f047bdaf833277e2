package num

import (
	"math"
	"math/big"
	"slices"
	"testing"

	"headgate/api"
)

// edges answers numbers at which a reckoning of 64 bits may go wrong: all powers of 2, their negatives, and those beside them.
func edges() []int64 {
	l := []int64{0, 7, -7, 10, -10, math.MaxInt64, math.MaxInt64 - 1, math.MinInt64, math.MinInt64 + 1, 3037000499, 3037000500, -3037000499, -3037000500}
	for k := range 63 {
		p := int64(1) << k
		l = append(l, p-1, p, p+1, -p-1, -p, -p+1)
	}
	slices.Sort(l)
	return slices.Compact(l)
}

// sums answers sums of all kinds, at the ends of 64 and of 128 bits among them.
func sums() []api.Sum {
	var l []api.Sum
	for _, hi := range []int64{0, 1, -1, 2, -2, 1 << 62, -1 << 62, math.MaxInt64, math.MinInt64} {
		for _, lo := range []uint64{0, 1, 2, math.MaxInt64 - 1, math.MaxInt64, 1 << 63, 1<<63 + 1, math.MaxUint64 - 1, math.MaxUint64} {
			l = append(l, api.Sum{Hi: hi, Lo: lo})
		}
	}
	return l
}

func exact(s api.Sum) *big.Int {
	n := new(big.Int).Lsh(big.NewInt(s.Hi), 64)
	return n.Add(n, new(big.Int).SetUint64(s.Lo))
}

// round answers the sum that n is, modulo 2^128.
func round(n *big.Int) api.Sum {
	words := new(big.Int).And(n, new(big.Int).Sub(new(big.Int).Lsh(big.NewInt(1), 128), big.NewInt(1)))
	lo := new(big.Int).And(words, new(big.Int).SetUint64(math.MaxUint64))
	return api.Sum{Hi: int64(new(big.Int).Rsh(words, 64).Uint64()), Lo: lo.Uint64()}
}

// wanted answers what P1.1 says of an operation from EAdd to ERem, reckoned without bounds.
func wanted(op int, a, b int64) (int64, api.Errno) {
	x, y, n := big.NewInt(a), big.NewInt(b), new(big.Int)
	if b == 0 && (op == api.EDiv || op == api.ERem) {
		return 0, api.ErrNumZero
	}
	switch op {
	case api.EAdd:
		n.Add(x, y)
	case api.ESub:
		n.Sub(x, y)
	case api.EMul:
		n.Mul(x, y)
	case api.EDiv:
		n.Quo(x, y)
	case api.ERem:
		n.Sub(x, y.Mul(y, new(big.Int).Quo(x, y)))
	}
	if !n.IsInt64() {
		return 0, api.ErrNumOver
	}
	return n.Int64(), api.OK
}

// P1.1
func TestDoNames(t *testing.T) {
	for _, c := range []struct {
		op   int
		a, b int64
		n    int64
		e    api.Errno
	}{
		{4, 2, 3, 5, 0}, {4, math.MaxInt64, 1, 0, 10}, {4, math.MinInt64, -1, 0, 10}, {4, math.MaxInt64, math.MinInt64, -1, 0}, {4, math.MaxInt64, 0, math.MaxInt64, 0},
		{5, 2, 3, -1, 0}, {5, 0, math.MinInt64, 0, 10}, {5, -1, math.MinInt64, math.MaxInt64, 0}, {5, math.MinInt64, math.MinInt64, 0, 0}, {5, math.MinInt64, 1, 0, 10}, {5, math.MaxInt64, -1, 0, 10},
		{6, -7, 6, -42, 0}, {6, math.MinInt64, -1, 0, 10}, {6, -1, math.MinInt64, 0, 10}, {6, math.MinInt64, 1, math.MinInt64, 0}, {6, math.MinInt64, 0, 0, 0}, {6, 0, -5, 0, 0},
		{6, 1 << 32, 1 << 31, 0, 10}, {6, 1 << 32, -1 << 31, math.MinInt64, 0}, {6, 1 << 32, 1 << 32, 0, 10}, {6, math.MinInt64, math.MinInt64, 0, 10}, {6, math.MaxInt64, math.MaxInt64, 0, 10},
		{7, 7, 2, 3, 0}, {7, -7, 2, -3, 0}, {7, 7, -2, -3, 0}, {7, -7, -2, 3, 0}, {7, 1, 0, 0, 11}, {7, 0, 0, 0, 11}, {7, math.MinInt64, 0, 0, 11}, {7, math.MinInt64, -1, 0, 10}, {7, -math.MaxInt64, -1, math.MaxInt64, 0},
		{8, 7, 2, 1, 0}, {8, -7, 2, -1, 0}, {8, 7, -2, 1, 0}, {8, -7, -2, -1, 0}, {8, 1, 0, 0, 11}, {8, math.MinInt64, -1, 0, 0}, {8, math.MinInt64, math.MaxInt64, -1, 0},
	} {
		if n, e := Do(c.op, c.a, c.b); n != c.n || e != c.e {
			t.Errorf("P1.1: Do(%d, %d, %d): %d, %d, not %d, %d", c.op, c.a, c.b, n, e, c.n, c.e)
		}
	}
}

// P1.1
func TestDoAtEdges(t *testing.T) {
	for op := api.EAdd; op <= api.ERem; op++ {
		for _, a := range edges() {
			for _, b := range edges() {
				n, e := Do(op, a, b)
				if wn, we := wanted(op, a, b); n != wn || e != we {
					t.Fatalf("P1.1: Do(%d, %d, %d): %d, %d, not %d, %d", op, a, b, n, e, wn, we)
				}
			}
		}
	}
}

// P1.1: ErrArg comes ahead of the other errors.
func TestDoOfNoOperation(t *testing.T) {
	ops := []int{math.MinInt, -4, -1, 9, 260, 1<<32 + api.EAdd, math.MaxInt}
	for op := range api.EAdd {
		ops = append(ops, op)
	}
	for op := api.ENeg; op <= api.ELen+1; op++ {
		ops = append(ops, op)
	}
	for _, op := range ops {
		for _, b := range []int64{-1, 0, 1, math.MaxInt64} {
			for _, a := range []int64{math.MinInt64, 0, 5, math.MaxInt64} {
				if n, e := Do(op, a, b); n != 0 || e != api.ErrArg {
					t.Errorf("P1.1: Do(%d, %d, %d): %d, %d", op, a, b, n, e)
				}
			}
		}
	}
}

// P1.2
func TestFloor(t *testing.T) {
	for _, c := range [][3]int64{
		{-7, 2, -4}, {7, 2, 3}, {-8, 2, -4}, {8, 2, 4}, {0, 5, 0}, {-1, 5, -1}, {4, 5, 0}, {5, 5, 1}, {-5, 5, -1}, {-6, 5, -2},
		{math.MinInt64, 1, math.MinInt64}, {math.MaxInt64, 1, math.MaxInt64}, {-1, math.MaxInt64, -1}, {math.MinInt64, math.MaxInt64, -2}, {math.MinInt64, 2, -1 << 62}, {math.MaxInt64, math.MaxInt64, 1},
	} {
		if n, e := Floor(c[0], c[1]); n != c[2] || e != api.OK {
			t.Errorf("P1.2: Floor(%d, %d): %d, %d, not %d", c[0], c[1], n, e, c[2])
		}
	}
}

// P1.2
func TestFloorWithoutDivisor(t *testing.T) {
	for _, b := range []int64{0, -1, -2, -math.MaxInt64, math.MinInt64} {
		for _, a := range edges() {
			if n, e := Floor(a, b); n != 0 || e != api.ErrArg {
				t.Errorf("P1.2: Floor(%d, %d): %d, %d", a, b, n, e)
			}
		}
	}
}

// P1.4
func TestFloorStaysNear(t *testing.T) {
	for _, a := range edges() {
		for _, b := range edges() {
			if b < 1 {
				continue
			}
			n, e := Floor(a, b)
			rest := new(big.Int).Sub(big.NewInt(a), new(big.Int).Mul(big.NewInt(n), big.NewInt(b)))
			if e != api.OK || rest.Sign() < 0 || rest.Cmp(big.NewInt(b)) >= 0 {
				t.Fatalf("P1.4: Floor(%d, %d): %d, %d", a, b, n, e)
			}
		}
	}
}

// P1.3
func TestAdd(t *testing.T) {
	for _, s := range sums() {
		for _, n := range edges() {
			want := round(new(big.Int).Add(exact(s), big.NewInt(n)))
			if got := Add(s, n); got != want {
				t.Fatalf("P1.3: Add(%v, %d): %v, not %v", s, n, got, want)
			}
		}
	}
}

// P1.3
func TestBoth(t *testing.T) {
	for _, s := range sums() {
		for _, u := range sums() {
			want := round(new(big.Int).Add(exact(s), exact(u)))
			if got := Both(s, u); got != want {
				t.Fatalf("P1.3: Both(%v, %v): %v, not %v", s, u, got, want)
			}
		}
	}
}

// P1.3
func TestSumsGoRound(t *testing.T) {
	most := api.Sum{Hi: math.MaxInt64, Lo: math.MaxUint64}
	least := api.Sum{Hi: math.MinInt64}
	if s := Add(most, 1); s != least {
		t.Errorf("P1.3: Add beyond the greatest: %v", s)
	}
	if s := Add(least, -1); s != most {
		t.Errorf("P1.3: Add below the least: %v", s)
	}
	if s := Both(least, least); s != (api.Sum{}) {
		t.Errorf("P1.3: Both of the least: %v", s)
	}
	if s := Both(most, most); s != (api.Sum{Hi: -1, Lo: math.MaxUint64 - 1}) {
		t.Errorf("P1.3: Both of the greatest: %v", s)
	}
}

// P1.3
func TestInt(t *testing.T) {
	for _, s := range sums() {
		n, ok := Int(s)
		want := exact(s)
		if ok != want.IsInt64() || ok && n != want.Int64() || !ok && n != 0 {
			t.Errorf("P1.3: Int(%v): %d, %v", s, n, ok)
		}
	}
	for _, a := range edges() {
		if n, ok := Int(Add(api.Sum{}, a)); n != a || !ok {
			t.Errorf("P1.3: Int of %d: %d, %v", a, n, ok)
		}
	}
	if n, ok := Int(Add(Add(api.Sum{}, math.MaxInt64), 1)); n != 0 || ok {
		t.Errorf("P1.3: Int of 2^63: %d, %v", n, ok)
	}
	if n, ok := Int(Add(Add(api.Sum{}, math.MinInt64), -1)); n != 0 || ok {
		t.Errorf("P1.3: Int of -2^63 - 1: %d, %v", n, ok)
	}
}

// P1.3
func TestLeast(t *testing.T) {
	if Least(3) != 3 || Least(3, 1, 2) != 1 || Least(1, 2, 3) != 1 || Least(3, 2, 1) != 1 || Least(2, 2) != 2 || Least(-1, 0, -1) != -1 {
		t.Error("P1.3: Least of ints")
	}
	if Least(int64(5)) != 5 || Least(int64(0), math.MaxInt64, math.MinInt64) != math.MinInt64 || Least(int64(math.MinInt64), 0) != math.MinInt64 || Least(int64(math.MaxInt64), math.MaxInt64) != math.MaxInt64 {
		t.Error("P1.3: Least of int64s")
	}
	if Least(4, []int(nil)...) != 4 || Least(4, []int{}...) != 4 {
		t.Error("P1.3: Least of a number and nothing")
	}
}

// R4: spare room behind the list's end stays too.
func TestLeastLeavesItsList(t *testing.T) {
	l := []int{5, 1, 4, 9, 8}
	if n := Least(3, l[:3]...); n != 1 {
		t.Errorf("P1.3: Least: %d", n)
	}
	if !slices.Equal(l, []int{5, 1, 4, 9, 8}) {
		t.Errorf("R4: the list is %v", l)
	}
}

// P1.4: the sum is the same forward, backward, sorted, and in two groups cut at any place.
func TestSumsInAnyOrder(t *testing.T) {
	l := edges()
	all := new(big.Int)
	for _, n := range l {
		all.Add(all, big.NewInt(n))
	}
	want := round(all)
	for turn := range l {
		turned := append(slices.Clone(l[turn:]), l[:turn]...)
		if got := total(turned); got != want {
			t.Fatalf("P1.4: from %d on: %v, not %v", turn, got, want)
		}
		slices.Reverse(turned)
		if got := Both(total(turned[:turn]), total(turned[turn:])); got != want {
			t.Fatalf("P1.4: in groups of %d: %v, not %v", turn, got, want)
		}
	}
}

// P1.4: that a sum goes round on the way counts for nothing.
func TestSumsOfSums(t *testing.T) {
	for _, a := range sums() {
		for _, b := range sums() {
			if Both(a, b) != Both(b, a) {
				t.Fatalf("P1.4: Both of %v, %v hangs on their order", a, b)
			}
			for _, c := range sums() {
				if Both(Both(a, b), c) != Both(a, Both(b, c)) {
					t.Fatalf("P1.4: Both of %v, %v, %v hangs on the groups", a, b, c)
				}
			}
		}
	}
}

func total(l []int64) api.Sum {
	var s api.Sum
	for _, n := range l {
		s = Add(s, n)
	}
	return s
}
