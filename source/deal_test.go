package source

import (
	"fmt"
	"math"
	"math/big"
	"slices"
	"testing"
)

// plainDeal deals by the chapter's words: round by round, one by one.
func plainDeal[T int | int64](heaps []T, most T) []T {
	left, dealt := slices.Clone(heaps), make([]T, len(heaps))
	taken := T(0)
	for some := true; some; {
		some = false
		for i := range left {
			if left[i] > 0 && taken < most {
				left[i]--
				dealt[i]++
				taken++
				some = true
			}
		}
	}
	return dealt
}

// notDealt answers what is wrong with what is said to be dealt, also of numbers that are too great to be dealt one by
// one; nothing, if all is right.
func notDealt[T int | int64](heaps []T, most T, dealt []T) string {
	if len(dealt) != len(heaps) {
		return fmt.Sprintf("%d heaps, of %d", len(dealt), len(heaps))
	}
	all, taken := new(big.Int), new(big.Int)
	for i, heap := range heaps {
		if dealt[i] < 0 || dealt[i] > max(heap, 0) {
			return fmt.Sprintf("%d of the heap %d", dealt[i], i)
		}
		all.Add(all, big.NewInt(int64(max(heap, 0))))
		taken.Add(taken, big.NewInt(int64(dealt[i])))
	}
	if least := big.NewInt(int64(max(most, 0))); least.Cmp(all) > 0 && taken.Cmp(all) != 0 || least.Cmp(all) <= 0 && taken.Cmp(least) != 0 {
		return fmt.Sprintf("%d are taken, of %d", taken, all)
	}
	// Of those that have some left each has been dealt as many, or the first ones one more; no other has more than these.
	least, first := T(0), true
	for i, heap := range heaps {
		if dealt[i] < heap && (first || dealt[i] < least) {
			least, first = dealt[i], false
		}
	}
	behind := false
	for i, heap := range heaps {
		if first || heap <= least {
			continue
		}
		if dealt[i] > least+1 || dealt[i] < least || behind && dealt[i] > least {
			return fmt.Sprintf("%d of the heap %d, where of others %d", dealt[i], i, least)
		}
		behind = dealt[i] == least
	}
	return ""
}

// The chapter's examples.
func TestExampleOfDeal(t *testing.T) {
	if l := Deal([]int{5, 1, 9}, 7); !slices.Equal(l, []int{3, 1, 3}) {
		t.Errorf("P11.1: Deal: %v", l)
	}
}

// heapsOf answers all lists of up to n heaps of from least to greatest.
func heapsOf(n, least, greatest int64) [][]int64 {
	l, last := [][]int64{nil}, [][]int64{nil}
	for range n {
		var longer [][]int64
		for _, heaps := range last {
			for heap := least; heap <= greatest; heap++ {
				longer = append(longer, append(slices.Clone(heaps), heap))
			}
		}
		l, last = append(l, longer...), longer
	}
	return l
}

// dealtAsPlain holds what is dealt against the chapter's words, and notDealt too.
func dealtAsPlain(t *testing.T, heaps []int64, most int64) {
	t.Helper()
	want := plainDeal(heaps, most)
	if l := Deal(heaps, most); !slices.Equal(l, want) {
		t.Fatalf("P11.1: Deal(%v, %d): %v, not %v", heaps, most, l, want)
	}
	if wrong := notDealt(heaps, most, want); wrong != "" {
		t.Fatalf("what tells that heaps are dealt tells %s of Deal(%v, %d)", wrong, heaps, most)
	}
	ints := make([]int, len(heaps))
	for i, heap := range heaps {
		ints[i] = int(heap)
	}
	if l := Deal(ints, int(most)); !slices.Equal(l, plainDeal(ints, int(most))) {
		t.Fatalf("P11.1: Deal(%v, %d) of ints: %v, not %v", ints, most, l, want)
	}
}

// P11.1: all lists of few small heaps.
func TestDealOfFew(t *testing.T) {
	for _, heaps := range append(heapsOf(4, -1, 4), heapsOf(6, 0, 2)...) {
		for most := int64(-2); most < 18; most++ {
			dealtAsPlain(t, heaps, most)
		}
	}
	for _, heaps := range [][]int64{{3, 100, 7, 100, 0, 7, -5, 31}, {1, 2, 3, 4, 5, 6, 7, 8, 9}, {9, 8, 7, 6, 5, 4, 3, 2, 1}, {50}, slices.Repeat([]int64{4}, 40)} {
		for most := int64(0); most < 400; most++ {
			dealtAsPlain(t, heaps, most)
		}
	}
}

// P11.1: numbers at their ends, of which all together are more than a number has room for.
func TestDealOfGreat(t *testing.T) {
	for _, c := range []struct {
		heaps []int64
		most  int64
		want  []int64
	}{
		{[]int64{math.MaxInt64}, math.MaxInt64, []int64{math.MaxInt64}},
		{[]int64{math.MaxInt64, math.MaxInt64}, math.MaxInt64, []int64{1 << 62, 1<<62 - 1}},
		{[]int64{math.MaxInt64, 1, math.MaxInt64}, math.MaxInt64, []int64{1<<62 - 1, 1, 1<<62 - 1}},
		{[]int64{math.MinInt64, math.MaxInt64}, math.MaxInt64, []int64{0, math.MaxInt64}},
		{[]int64{math.MinInt64, math.MinInt64}, math.MaxInt64, []int64{0, 0}},
		{[]int64{math.MaxInt64, math.MaxInt64}, math.MinInt64, []int64{0, 0}},
		{[]int64{math.MaxInt64, math.MaxInt64}, -1, []int64{0, 0}},
		{[]int64{math.MaxInt64, math.MaxInt64}, 1, []int64{1, 0}},
		{[]int64{1 << 61, 1 << 61, 1 << 61}, math.MaxInt64, []int64{1 << 61, 1 << 61, 1 << 61}},
	} {
		if l := Deal(c.heaps, c.most); !slices.Equal(l, c.want) {
			t.Errorf("P11.1: Deal(%v, %d): %v, not %v", c.heaps, c.most, l, c.want)
		}
	}
	ends := []int64{math.MinInt64, -1, 0, 1, 2, 1<<61 + 1, 1<<62 - 1, 1 << 62, math.MaxInt64 - 1, math.MaxInt64}
	for _, places := range heapsOf(4, 0, int64(len(ends))-1) {
		heaps, ints := make([]int64, len(places)), make([]int, len(places))
		for i, place := range places {
			heaps[i], ints[i] = ends[place], int(ends[place])
		}
		for _, most := range append(ends, 3, 7, 1<<60+1, 1<<62+3) {
			if wrong := notDealt(heaps, most, Deal(heaps, most)); wrong != "" {
				t.Fatalf("P11.1: Deal(%v, %d): %s", heaps, most, wrong)
			}
			if wrong := notDealt(ints, int(most), Deal(ints, int(most))); wrong != "" {
				t.Fatalf("P11.1: Deal(%v, %d) of ints: %s", ints, most, wrong)
			}
		}
	}
}

// P11.1: many heaps, none like another one, with and without an order.
func TestDealOfMany(t *testing.T) {
	const n = 1 << 20
	heaps := make([]int, n)
	for i := range heaps {
		heaps[i] = i * 48271 % n
	}
	for _, most := range []int{0, 1, n - 1, n, n + 1, 12345678901, n * (n - 1) / 2, math.MaxInt} {
		if wrong := notDealt(heaps, most, Deal(heaps, most)); wrong != "" {
			t.Errorf("P11.1: Deal of many, %d: %s", most, wrong)
		}
	}
}

// R4: the heaps stay, in their order and with what is behind them; what is told is the caller's.
func TestHeapsStay(t *testing.T) {
	room := []int64{5, -1, 9, 2, 77, 78}
	a := Deal(room[:4], 7)
	b := Deal(room[:4], 7)
	for i := range a[:cap(a)] {
		a[:cap(a)][i] = 42
	}
	if !slices.Equal(room, []int64{5, -1, 9, 2, 77, 78}) {
		t.Errorf("R4: the heaps became %v", room)
	}
	if !slices.Equal(b, []int64{3, 0, 2, 2}) {
		t.Errorf("R4: what was told became %v", b)
	}
	for _, none := range [][]int64{nil, {}} {
		for _, most := range []int64{math.MinInt64, 0, 1, math.MaxInt64} {
			if l := Deal(none, most); len(l) != 0 {
				t.Errorf("P11.1: Deal of none: %v", l)
			}
		}
	}
}
