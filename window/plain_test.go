package window

import (
	"math"
	"math/big"
	"slices"

	"headgate/api"
)

// This file does the chapter's words plainly, with unbounded numbers and by trying windows out.

// pair is a size and a slide.
type pair struct{ size, slide int64 }

// edges answers numbers at which windows or a reckoning of 64 bits may go wrong.
func edges() []int64 {
	l := []int64{0, math.MaxInt64, math.MaxInt64 - 1, math.MinInt64, math.MinInt64 + 1}
	for _, k := range []int{0, 1, 2, 5, 6, 7, 32, 49, 50, 51, 55, 56, 57, 58, 61, 62} {
		p := int64(1) << k
		l = append(l, p-1, p, p+1, -p-1, -p, -p+1)
	}
	slices.Sort(l)
	return slices.Compact(l)
}

// rightPlain tells whether windows are right, by the chapter's words.
func rightPlain(size, slide int64) bool {
	n, d, most := big.NewInt(size), big.NewInt(slide), new(big.Int).Lsh(big.NewInt(1), 56)
	slides := new(big.Int).Mul(d, big.NewInt(64))
	return d.Sign() > 0 && n.Cmp(d) >= 0 && n.Cmp(most) <= 0 && n.Cmp(slides) <= 0
}

// timePlain tells whether t is a time.
func timePlain(t int64) bool {
	return new(big.Int).Abs(big.NewInt(t)).Cmp(new(big.Int).Lsh(big.NewInt(1), 56)) <= 0
}

// hasPlain tells whether t is from s on, and less than size behind it.
func hasPlain(s, size, t int64) bool {
	behind := new(big.Int).Sub(big.NewInt(t), big.NewInt(s))
	return behind.Sign() >= 0 && behind.Cmp(big.NewInt(size)) < 0
}

// nearPlain answers where windows begin that have t, tried out at the multiples of the slide from 70 ahead of t to some behind it.
func nearPlain(t, size, slide int64) []int64 {
	var l []int64
	about := new(big.Int).Quo(big.NewInt(t), big.NewInt(slide))
	for k := int64(-70); k <= 5; k++ {
		s := new(big.Int).Add(about, big.NewInt(k))
		s.Mul(s, big.NewInt(slide))
		if s.IsInt64() && hasPlain(s.Int64(), size, t) {
			l = append(l, s.Int64())
		}
	}
	return l
}

// ofPlain answers what Of ought to.
func ofPlain(t, size, slide int64) ([]int64, api.Errno) {
	if !rightPlain(size, slide) {
		return nil, api.ErrWindow
	}
	if !timePlain(t) {
		return nil, api.ErrArg
	}
	return nearPlain(t, size, slide), api.OK
}

// pairs answers right sizes and slides: all small ones, and some at each end.
func pairs() []pair {
	var l []pair
	for slide := int64(1); slide <= 5; slide++ {
		for size := slide; size <= 64*slide; size++ {
			l = append(l, pair{size, slide})
		}
	}
	sizes := append(edges(), 1<<56-63, 1<<56-64, 1000, 12345, 86400000, 3*1<<40)
	for _, size := range sizes {
		for _, slide := range []int64{size, size - 1, size/2 + 1, size / 2, size / 3, size/63 + 1, size/64 + 1, size / 64} {
			if rightPlain(size, slide) {
				l = append(l, pair{size, slide})
			}
		}
	}
	return l
}

// times answers times at both ends, about 0, and about a size and a slide.
func times(p pair) []int64 {
	var l []int64
	for _, about := range []int64{0, p.slide, p.size, p.size - p.slide, 7 * p.slide, 1 << 40, 1 << 56} {
		for d := int64(-2); d <= 2; d++ {
			for _, t := range []int64{about + d, -about + d} {
				if timePlain(t) {
					l = append(l, t)
				}
			}
		}
	}
	slices.Sort(l)
	return slices.Compact(l)
}
