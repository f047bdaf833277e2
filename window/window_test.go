package window

import (
	"math"
	"slices"
	"testing"

	"headgate/api"
)

func TestCheckTable(t *testing.T) {
	const most = api.MaxTime
	for _, c := range []struct {
		size, slide int64
		want        api.Errno
	}{
		{1, 1, api.OK}, {5, 5, api.OK}, {10, 5, api.OK}, {7, 5, api.OK}, {64, 1, api.OK}, {640, 10, api.OK},
		{most, most, api.OK}, {most, most - 1, api.OK}, {most, most / 64, api.OK}, {most - 1, most / 64, api.OK},
		{0, 0, api.ErrWindow}, {1, 0, api.ErrWindow}, {0, 1, api.ErrWindow}, {-1, 1, api.ErrWindow}, {1, -1, api.ErrWindow},
		{-1, -1, api.ErrWindow}, {-5, -10, api.ErrWindow}, {4, 5, api.ErrWindow}, {65, 1, api.ErrWindow}, {641, 10, api.ErrWindow},
		{most, most + 1, api.ErrWindow}, {most + 1, most, api.ErrWindow}, {most + 1, most + 1, api.ErrWindow},
		{most, most/64 - 1, api.ErrWindow}, {math.MaxInt64, math.MaxInt64, api.ErrWindow}, {math.MinInt64, math.MinInt64, api.ErrWindow},
		{math.MaxInt64, math.MinInt64, api.ErrWindow}, {math.MinInt64, math.MaxInt64, api.ErrWindow}, {most, 1, api.ErrWindow},
		{5, 1 << 58, api.ErrWindow}, {5, 1<<58 + 1, api.ErrWindow}, {most, math.MaxInt64, api.ErrWindow},
	} {
		if e := Check(c.size, c.slide); e != c.want {
			t.Errorf("P14.1: Check(%d, %d): %d, not %d", c.size, c.slide, e, c.want)
		}
	}
}

func TestCheckAsTheWords(t *testing.T) {
	l := edges()
	for k := int64(-3); k <= 200; k++ {
		l = append(l, k)
	}
	for _, size := range l {
		for _, slide := range l {
			want := api.OK
			if !rightPlain(size, slide) {
				want = api.ErrWindow
			}
			if e := Check(size, slide); e != want {
				t.Fatalf("P14.1: Check(%d, %d): %d, not %d", size, slide, e, want)
			}
		}
	}
}

func TestOfTable(t *testing.T) {
	const most = api.MaxTime
	for _, c := range []struct {
		time, size, slide int64
		want              []int64
	}{
		{7, 10, 5, []int64{0, 5}}, {-1, 10, 10, []int64{-10}},
		{0, 10, 10, []int64{0}}, {9, 10, 10, []int64{0}}, {10, 10, 10, []int64{10}}, {-10, 10, 10, []int64{-10}}, {-11, 10, 10, []int64{-20}},
		{0, 1, 1, []int64{0}}, {-1, 1, 1, []int64{-1}}, {5, 3, 1, []int64{3, 4, 5}}, {-5, 3, 1, []int64{-7, -6, -5}},
		{0, 10, 5, []int64{-5, 0}}, {4, 10, 5, []int64{-5, 0}}, {5, 10, 5, []int64{0, 5}}, {-1, 10, 5, []int64{-10, -5}}, {-5, 10, 5, []int64{-10, -5}}, {-6, 10, 5, []int64{-15, -10}},
		{0, 7, 5, []int64{-5, 0}}, {1, 7, 5, []int64{-5, 0}}, {2, 7, 5, []int64{0}}, {4, 7, 5, []int64{0}}, {6, 7, 5, []int64{0, 5}},
		{most, 1, 1, []int64{most}}, {-most, 1, 1, []int64{-most}}, {most, most, most, []int64{most}}, {-most, most, most, []int64{-most}},
		{most - 1, most, most, []int64{0}}, {1 - most, most, most, []int64{-most}}, {-1, most, most, []int64{-most}}, {0, most, most, []int64{0}},
		{-most, most, most - 1, []int64{2 - 2*most}}, {1 - most, most, most - 1, []int64{2 - 2*most, 1 - most}},
	} {
		l, e := Of(c.time, c.size, c.slide)
		if e != api.OK || !slices.Equal(l, c.want) {
			t.Errorf("P14.1: Of(%d, %d, %d): %v, %d, not %v", c.time, c.size, c.slide, l, e, c.want)
		}
	}
}

func TestOfWrong(t *testing.T) {
	for _, c := range []struct {
		time, size, slide int64
		want              api.Errno
	}{
		{api.MaxTime + 1, 1, 1, api.ErrArg}, {-api.MaxTime - 1, 1, 1, api.ErrArg}, {math.MaxInt64, 64, 1, api.ErrArg}, {math.MinInt64, 64, 1, api.ErrArg},
		{math.MinInt64, api.MaxTime, api.MaxTime, api.ErrArg}, {0, 65, 1, api.ErrWindow}, {0, 0, 0, api.ErrWindow}, {0, 1, 2, api.ErrWindow},
		{api.MaxTime + 1, 0, 1, api.ErrWindow}, {math.MinInt64, 65, 1, api.ErrWindow}, {math.MaxInt64, 1, 0, api.ErrWindow},
	} {
		l, e := Of(c.time, c.size, c.slide)
		if e != c.want || len(l) > 0 {
			t.Errorf("P14.1: Of(%d, %d, %d): %v, %d, not %d", c.time, c.size, c.slide, l, e, c.want)
		}
		for s := range All(c.time, c.size, c.slide) {
			t.Errorf("P14.1: All(%d, %d, %d) tells %d", c.time, c.size, c.slide, s)
		}
	}
}

// Every small size, slide and time, right or not, held against all windows about it.
func TestOfSmall(t *testing.T) {
	for slide := int64(-1); slide <= 12; slide++ {
		for size := int64(-1); size <= 40; size++ {
			for time := int64(-45); time <= 45; time++ {
				var want []int64
				for s := int64(-150); rightPlain(size, slide) && s <= 150; s++ {
					if s%slide == 0 && s <= time && time < s+size {
						want = append(want, s)
					}
				}
				l, e := Of(time, size, slide)
				if (e == api.OK) != rightPlain(size, slide) || !slices.Equal(l, want) {
					t.Fatalf("P14.1: Of(%d, %d, %d): %v, %d, not %v", time, size, slide, l, e, want)
				}
			}
		}
	}
}

func TestOfAsTheWords(t *testing.T) {
	l := edges()
	for _, time := range l {
		for _, size := range l {
			for _, slide := range l {
				got, e := Of(time, size, slide)
				want, ee := ofPlain(time, size, slide)
				if e != ee || !slices.Equal(got, want) {
					t.Fatalf("P14.1: Of(%d, %d, %d): %v, %d, not %v, %d", time, size, slide, got, e, want, ee)
				}
			}
		}
	}
}

func TestOfRight(t *testing.T) {
	for _, p := range pairs() {
		for _, time := range times(p) {
			got, e := Of(time, p.size, p.slide)
			if want := nearPlain(time, p.size, p.slide); e != api.OK || !slices.Equal(got, want) {
				t.Fatalf("P14.1: Of(%d, %d, %d): %v, %d, not %v", time, p.size, p.slide, got, e, want)
			}
			if told := slices.Collect(All(time, p.size, p.slide)); !slices.Equal(told, got) {
				t.Fatalf("P14.1: All(%d, %d, %d): %v, not %v", time, p.size, p.slide, told, got)
			}
		}
	}
}

// What follows: at least one window, just one where the slide is the size, and no more than a size has slides, rounded up.
func TestHowMany(t *testing.T) {
	for _, p := range pairs() {
		most, met := (p.size+p.slide-1)/p.slide, false
		for _, time := range append(times(p), 0, p.slide-1) {
			l, _ := Of(time, p.size, p.slide)
			n := int64(len(l))
			if n < 1 || n > most || n > api.MaxWins || (p.size == p.slide && n != 1) {
				t.Fatalf("P14.2: %d is in %d windows of %d by %d", time, n, p.size, p.slide)
			}
			met = met || n == most
			for _, s := range l {
				if s%p.slide != 0 || !Has(s, p.size, time) {
					t.Fatalf("P14.2: the window of %d by %d at %d has not %d", p.size, p.slide, s, time)
				}
			}
		}
		if !met {
			t.Fatalf("P14.2: no time is in %d windows of %d by %d", most, p.size, p.slide)
		}
	}
}

func TestAllStops(t *testing.T) {
	want, _ := Of(-3, 64, 1)
	for most := range 65 {
		var l []int64
		for s := range All(-3, 64, 1) {
			if len(l) == most {
				break
			}
			l = append(l, s)
		}
		if !slices.Equal(l, want[:most]) {
			t.Errorf("P14.1: the first %d of All: %v", most, l)
		}
	}
	calls := 0
	All(-3, 64, 1)(func(int64) bool { calls++; return false })
	if calls != 1 {
		t.Errorf("P14.1: All went on %d times behind the end", calls-1)
	}
}

// One walk may be gone again, and within itself; nothing of it is kept.
func TestAllAnew(t *testing.T) {
	walk, want := All(12, 10, 3), []int64{3, 6, 9, 12}
	for range 3 {
		n := 0
		for s := range walk {
			if inner := slices.Collect(walk); s != want[n] || !slices.Equal(inner, want) {
				t.Fatalf("P14.1: All: %d, and within it %v", s, inner)
			}
			n++
		}
		if n != len(want) {
			t.Fatalf("P14.1: All told %d", n)
		}
	}
}

func TestOfTellsNewMemory(t *testing.T) {
	one, _ := Of(12, 10, 3)
	clear(one[:cap(one)])
	if two, e := Of(12, 10, 3); e != api.OK || !slices.Equal(two, []int64{3, 6, 9, 12}) {
		t.Errorf("R4: Of: %v, %d", two, e)
	}
}

func TestHasTable(t *testing.T) {
	const least, most = math.MinInt64, math.MaxInt64
	for _, c := range []struct {
		s, size, time int64
		want          bool
	}{
		{0, 5, 0, true}, {0, 5, 4, true}, {0, 5, 5, false}, {0, 5, -1, false}, {-10, 10, -10, true}, {-10, 10, -1, true}, {-10, 10, 0, false}, {-10, 10, -11, false},
		{0, 0, 0, false}, {0, -1, 0, false}, {0, -1, -1, false}, {0, -1, -2, false}, {5, least, 5, false}, {0, least, most, false}, {0, 1, 0, true},
		{least, most, -2, true}, {least, most, -1, false}, {least, most, most, false}, {least, 1, least, true}, {least, -1, most, false}, {least, least, 0, false},
		{most, most, most, true}, {most, most, least, false}, {most, 2, least, false}, {most - 1, 5, most, true}, {-1, most, most - 2, true}, {-1, most, most - 1, false},
		{0, most, most - 1, true}, {0, most, most, false}, {1, most, most, true}, {most, 1, most, true},
	} {
		if got := Has(c.s, c.size, c.time); got != c.want {
			t.Errorf("P14.1: Has(%d, %d, %d): %v", c.s, c.size, c.time, got)
		}
	}
}

func TestHasAsTheWords(t *testing.T) {
	l := edges()
	for _, s := range l {
		for _, size := range l {
			for _, time := range l {
				if got := Has(s, size, time); got != hasPlain(s, size, time) {
					t.Fatalf("P14.1: Has(%d, %d, %d): %v", s, size, time, got)
				}
			}
		}
	}
}
