package agg

import (
	"math"
	"math/big"
	"strings"

	"headgate/api"
)

// This file does the chapter's words plainly, with unbounded numbers, and makes what is tried.

func whole(n int64) api.Value { return api.Value{Kind: 1, N: n} }

func truth(n int64) api.Value { return api.Value{Kind: 2, N: n} }

func text(s string) api.Value { return api.Value{Kind: 3, S: s} }

// kindsPlain answers all kinds there are, and the least and greatest numbers and some about them that are none.
func kindsPlain() []int {
	l := []int{math.MinInt, math.MinInt + 1, -1 << 32, 1 << 32, 1<<32 + 1, 1<<32 + 3, 256, 257, 261, math.MaxInt - 1, math.MaxInt}
	for kind := -10; kind <= 20; kind++ {
		l = append(l, kind)
	}
	return l
}

// rightValues answers right values of all kinds, rising.
func rightValues() []api.Value {
	return []api.Value{
		{}, whole(math.MinInt64), whole(math.MinInt64 + 1), whole(-3), whole(-1), whole(0), whole(1), whole(2), whole(math.MaxInt64 - 1), whole(math.MaxInt64),
		truth(0), truth(1), text(""), text("\x00"), text("\x00a"), text("a"), text("a\x00"), text("ab"), text("b"), text("\xff"), text(strings.Repeat("\xff", 200)),
	}
}

// wrongValues answers values that aren't right.
func wrongValues() []api.Value {
	return []api.Value{
		{N: 1}, {N: -1}, {S: "a"}, {S: "\x00"}, {Kind: 1, S: "a"}, {Kind: 1, N: 5, S: " "}, {Kind: 2, N: 2}, {Kind: 2, N: -1}, {Kind: 2, N: math.MinInt64}, {Kind: 2, S: "a"},
		{Kind: 3, N: 1}, {Kind: 3, N: -1, S: "a"}, text(strings.Repeat("a", 201)), text(strings.Repeat("\x00", 300)),
		{Kind: 4}, {Kind: -1}, {Kind: 256}, {Kind: 1 << 32}, {Kind: math.MaxInt}, {Kind: math.MinInt}, {Kind: 4, N: 7, S: "a"},
	}
}

// accs answers much that may be kept, or stand there though no call would have kept it.
func accs() []Acc {
	numbers := []int64{0, 1, -1, 2, math.MaxInt64, math.MinInt64}
	sums := []api.Sum{
		{}, {Lo: 1}, {Hi: -1, Lo: math.MaxUint64}, {Lo: 1<<63 - 1}, {Lo: 1 << 63}, {Hi: -1, Lo: 1 << 63}, {Hi: -1, Lo: 1<<63 - 1}, {Lo: math.MaxUint64}, {Hi: 1}, {Hi: -1},
		{Hi: math.MaxInt64, Lo: math.MaxUint64}, {Hi: math.MinInt64}, {Hi: math.MinInt64, Lo: 1 << 63}, {Hi: 1 << 62, Lo: 5},
	}
	bests := []api.Value{{}, whole(-1), whole(0), whole(1), whole(math.MinInt64), whole(math.MaxInt64), truth(0), truth(1), text(""), text("a"), text("b"), {Kind: 4, N: 7, S: "x"}, {Kind: 1, S: "q"}, {Kind: -1}}
	var l []Acc
	for i, n := range numbers {
		for j, sum := range sums {
			l = append(l, Acc{n, sum, bests[(i+j)%len(bests)]})
		}
		for j, best := range bests {
			l = append(l, Acc{n, sums[(i+j)%len(sums)], best})
		}
	}
	return l
}

// bigSum answers a sum as an unbounded number.
func bigSum(s api.Sum) *big.Int {
	n := new(big.Int).Lsh(big.NewInt(s.Hi), 64)
	return n.Add(n, new(big.Int).SetUint64(s.Lo))
}

// round answers n, brought by going round to a number of as many bits with a sign.
func round(n *big.Int, bits uint) *big.Int {
	all, half := new(big.Int).Lsh(big.NewInt(1), bits), new(big.Int).Lsh(big.NewInt(1), bits-1)
	n = new(big.Int).Add(n, half)
	return n.Sub(n.Mod(n, all), half)
}

// togetherPlain answers two Ns together, going round at 2^63.
func togetherPlain(a, b int64) int64 {
	return round(new(big.Int).Add(big.NewInt(a), big.NewInt(b)), 64).Int64()
}

// sumPlain answers a sum and a number together, going round at 2^127.
func sumPlain(s api.Sum, n *big.Int) api.Sum {
	all := round(new(big.Int).Add(bigSum(s), n), 128)
	lo := new(big.Int).Mod(all, new(big.Int).Lsh(big.NewInt(1), 64))
	hi := new(big.Int).Rsh(all, 64)
	return api.Sum{Hi: hi.Int64(), Lo: lo.Uint64()}
}

// aheadPlain tells whether v comes ahead of w.
func aheadPlain(v, w api.Value) bool {
	if v.Kind != w.Kind {
		return v.Kind < w.Kind
	}
	if v.N != w.N {
		return v.N < w.N
	}
	return v.S < w.S
}

// rightPlain tells whether a value is right.
func rightPlain(v api.Value) bool {
	switch v.Kind {
	case 0:
		return v.N == 0 && v.S == ""
	case 1:
		return v.S == ""
	case 2:
		return (v.N == 0 || v.N == 1) && v.S == ""
	case 3:
		return v.N == 0 && len(v.S) <= 200
	}
	return false
}

func kindPlain(kind, col int) (int, api.Errno) {
	if kind < 1 || kind > 5 {
		return 0, 150
	}
	if col != 1 && col != 2 && col != 3 {
		return 0, 151
	}
	switch kind {
	case 1, 2:
		return 1, 0
	case 3:
		if col == 1 {
			return 1, 0
		}
		return 0, 151
	}
	return col, 0
}

func addPlain(kind int, a Acc, v api.Value) (Acc, api.Errno) {
	if kind < 1 || kind > 5 {
		return Acc{}, 150
	}
	if !rightPlain(v) {
		return Acc{}, 151
	}
	if kind == 3 && v.Kind > 1 {
		return Acc{}, 151
	}
	if kind > 1 && v.Kind == 0 {
		return a, 0
	}
	was := a.N
	a.N = togetherPlain(was, 1)
	if kind == 3 {
		a.Sum = sumPlain(a.Sum, big.NewInt(v.N))
	}
	if kind == 4 && (was == 0 || aheadPlain(v, a.Best)) {
		a.Best = v
	}
	if kind == 5 && (was == 0 || aheadPlain(a.Best, v)) {
		a.Best = v
	}
	return a, 0
}

func bothPlain(kind int, a, b Acc) (Acc, api.Errno) {
	if kind < 1 || kind > 5 {
		return Acc{}, 150
	}
	c := Acc{togetherPlain(a.N, b.N), a.Sum, a.Best}
	if kind == 3 {
		c.Sum = sumPlain(a.Sum, bigSum(b.Sum))
	}
	if kind < 4 || b.N == 0 || a.Best == b.Best {
		return c, 0
	}
	if a.N == 0 || kind == 4 && aheadPlain(b.Best, a.Best) || kind == 5 && aheadPlain(a.Best, b.Best) {
		c.Best = b.Best
	}
	return c, 0
}

func worthPlain(kind int, a Acc) (api.Value, api.Errno) {
	switch {
	case kind < 1 || kind > 5:
		return api.Value{}, 150
	case kind < 3:
		return whole(a.N), 0
	case a.N == 0:
		return api.Value{}, 0
	case kind > 3:
		return a.Best, 0
	case !bigSum(a.Sum).IsInt64():
		return api.Value{}, 0
	}
	return whole(bigSum(a.Sum).Int64()), 0
}

// ofAllPlain answers what values are worth, by the chapter's table alone: nothing is kept.
func ofAllPlain(kind int, l []api.Value) api.Value {
	counted, sum := []api.Value{}, new(big.Int)
	for _, v := range l {
		if kind == 1 || v.Kind != 0 {
			counted = append(counted, v)
			sum.Add(sum, big.NewInt(v.N))
		}
	}
	if kind < 3 {
		return whole(int64(len(counted)))
	}
	if len(counted) == 0 || kind == 3 && !sum.IsInt64() {
		return api.Value{}
	}
	if kind == 3 {
		return whole(sum.Int64())
	}
	best := counted[0]
	for _, v := range counted {
		if kind == 4 && aheadPlain(v, best) || kind == 5 && aheadPlain(best, v) {
			best = v
		}
	}
	return best
}
