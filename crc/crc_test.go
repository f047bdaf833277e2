package crc

import (
	"hash/crc32"
	"math"
	"math/bits"
	"slices"
	"testing"
)

type text string

type list []byte

// plain answers what the chapter's words make of c and b, one bit after the other.
func plain(c uint64, b []byte) uint32 {
	for _, x := range b {
		c ^= uint64(x)
		for range 8 {
			odd := c%2 == 1
			c /= 2
			if odd {
				c ^= 2197175160
			}
		}
	}
	return uint32(c ^ (1<<32 - 1))
}

// mixed answers n bytes of all kinds, by a rule without chance.
func mixed(n int) []byte {
	b, x := make([]byte, n), uint32(n)
	for i := range b {
		x = x*1664525 + 1013904223
		b[i] = byte(x >> 24)
	}
	return b
}

// inputs answers byte lists: none, each byte alone, equal bytes, and mixed ones of many lengths.
func inputs() [][]byte {
	l := [][]byte{nil, {}}
	for x := range 256 {
		l = append(l, []byte{byte(x)}, []byte{0, byte(x)}, []byte{byte(x), 255})
	}
	for n := range 70 {
		l = append(l, make([]byte, n), slices.Repeat([]byte{255}, n), slices.Repeat([]byte{0x80}, n), mixed(n))
	}
	return append(l, mixed(255), mixed(256), mixed(257), mixed(4096), mixed(65537))
}

// starts answers sums to go on from: those of no bytes, of some, and such as nobody reckoned.
func starts() []uint32 {
	l := []uint32{0, 1, 2, 255, 256, 3808858755, 2197175160, math.MaxInt32, 1 << 31, math.MaxUint32 - 1, math.MaxUint32}
	for k := range 32 {
		l = append(l, 1<<k, ^uint32(1<<k))
	}
	return l
}

// P2.1: sums that are known of CRC-32C.
func TestKnownSums(t *testing.T) {
	rising, falling := make([]byte, 32), make([]byte, 32)
	for i := range rising {
		rising[i], falling[i] = byte(i), byte(31-i)
	}
	for _, c := range []struct {
		b   string
		sum uint32
	}{
		{"", 0},
		{"a", 3251651376},
		{"123456789", 3808858755},
		{string(make([]byte, 32)), 0x8a9136aa},
		{string(slices.Repeat([]byte{255}, 32)), 0x62a8ab43},
		{string(rising), 0x46dd794e},
		{string(falling), 0x113fdb5c},
	} {
		if sum := Of(c.b); sum != c.sum {
			t.Errorf("P2.1: Of(%q): %d, not %d", c.b, sum, c.sum)
		}
		if sum := Of([]byte(c.b)); sum != c.sum {
			t.Errorf("P2.1: Of(bytes of %q): %d, not %d", c.b, sum, c.sum)
		}
	}
}

// P2.1
func TestOf(t *testing.T) {
	castagnoli := crc32.MakeTable(crc32.Castagnoli)
	for _, b := range inputs() {
		want := plain(1<<32-1, b)
		if theirs := crc32.Checksum(b, castagnoli); theirs != want {
			t.Fatalf("the test's own sums of %d bytes are unlike: %d, %d", len(b), want, theirs)
		}
		if sum := Of(b); sum != want {
			t.Fatalf("P2.1: Of(%d bytes from %x): %d, not %d", len(b), b[:min(4, len(b))], sum, want)
		}
	}
}

// P2.1: texts and byte lists, and types made of them, are all the same.
func TestKindsOfBytes(t *testing.T) {
	for _, b := range inputs() {
		want := Of(b)
		if Of(string(b)) != want || Of(text(b)) != want || Of(list(b)) != want {
			t.Fatalf("P2.1: Of hangs on the type of %d bytes", len(b))
		}
		for _, s := range starts() {
			want := More(s, b[:min(9, len(b))])
			short := b[:min(9, len(b))]
			if More(s, string(short)) != want || More(s, text(short)) != want || More(s, list(short)) != want {
				t.Fatalf("P2.1: More hangs on the type of %x", short)
			}
		}
	}
}

// P2.1: a text is its bytes, never its letters, right or broken.
func TestTextsAreBytes(t *testing.T) {
	for _, s := range []string{"\u00e4\u00f6\u00fc", "\u20ac", "\U0001f600", "\xff\xfe", "a\x00b", "\x00", "\xe2\x82", "\xed\xa0\x80"} {
		if sum, want := Of(s), plain(1<<32-1, []byte(s)); sum != want {
			t.Errorf("P2.1: Of(%q): %d, not %d", s, sum, want)
		}
	}
}

// P2.1
func TestMoreGoesOn(t *testing.T) {
	for _, b := range inputs() {
		if len(b) > 300 {
			continue
		}
		want := Of(b)
		for cut := range len(b) + 1 {
			if sum := More(Of(b[:cut]), b[cut:]); sum != want {
				t.Fatalf("P2.1: More of %d bytes cut at %d: %d, not %d", len(b), cut, sum, want)
			}
		}
	}
}

// P2.1
func TestMoreByteByByte(t *testing.T) {
	b, sum := mixed(5000), uint32(0)
	for i := range b {
		sum = More(sum, b[i:i+1])
		if i%500 == 499 && sum != Of(b[:i+1]) {
			t.Fatalf("P2.1: More byte by byte, %d of them: %d, not %d", i+1, sum, Of(b[:i+1]))
		}
	}
}

// P2.1: of any sum, if some bytes have it or not.
func TestMoreOfAnySum(t *testing.T) {
	castagnoli := crc32.MakeTable(crc32.Castagnoli)
	for _, s := range starts() {
		for _, b := range inputs() {
			if len(b) > 300 {
				continue
			}
			want := plain(uint64(s)^(1<<32-1), b)
			if theirs := crc32.Update(s, castagnoli, b); theirs != want {
				t.Fatalf("the test's own sums are unlike: %d, %d", want, theirs)
			}
			if sum := More(s, b); sum != want {
				t.Fatalf("P2.1: More(%d, %d bytes): %d, not %d", s, len(b), sum, want)
			}
		}
	}
}

// P2.1, P2.2: without bytes, there's nothing to add.
func TestNothing(t *testing.T) {
	if Of("") != 0 || Of([]byte(nil)) != 0 || Of([]byte{}) != 0 || Of(text("")) != 0 || Of(list(nil)) != 0 || Of(mixed(9)[4:4]) != 0 {
		t.Error("P2.2: Of(nothing) isn't 0")
	}
	for _, s := range starts() {
		if More(s, "") != s || More(s, []byte(nil)) != s || More(s, list{}) != s {
			t.Errorf("P2.1: More(%d, nothing) isn't that", s)
		}
	}
}

// R4, R6: bytes stay, spare room behind their end too, and count for nothing in the sum; one call leaves nothing to the next.
func TestBytesStay(t *testing.T) {
	b := mixed(40)
	first := Of(b[:20])
	if More(7, b[:20]) != More(7, string(b[:20])) || !slices.Equal(b, mixed(40)) {
		t.Error("R4: the bytes were changed")
	}
	b[20]++
	if Of(b[:20]) != first || Of(slices.Clip(b[:20])) != first {
		t.Error("R6: the sum of the same bytes is another one")
	}
}

// flipped answers b with a burst of turned bits: bit k of burst turns bit at + k, the lowest of each byte first.
func flipped(b []byte, at int, burst uint32) []byte {
	b = slices.Clone(b)
	for k := range 32 {
		if burst>>k&1 == 1 {
			b[(at+k)/8] ^= 1 << ((at + k) % 8)
		}
	}
	return b
}

// bursts answers ways to turn bits within n: each alone, each two, all, the ends with mixed ones between.
func bursts(n int) []uint32 {
	var l []uint32
	for i := range n {
		for j := range i + 1 {
			l = append(l, 1<<i|1<<j, 1<<i|(1<<i-1<<j))
		}
	}
	x := uint32(n)
	for range 200 {
		x = x*1664525 + 1013904223
		mask := uint32(1<<uint(n) - 1)
		l = append(l, (x^x>>16)&mask|1<<(n-1)|1)
	}
	return slices.DeleteFunc(l, func(b uint32) bool { return b == 0 })
}

// P2.2
func TestTurnedBitsAreTold(t *testing.T) {
	for _, n := range []int{1, 2, 3, 4, 5, 8, 13, 64} {
		for _, b := range [][]byte{mixed(n), make([]byte, n), slices.Repeat([]byte{255}, n)} {
			sum := Of(b)
			for at := range 8 * n {
				for _, burst := range bursts(min(32, 8*n-at)) {
					if Of(flipped(b, at, burst)) == sum {
						t.Fatalf("P2.2: %x, turned by %#x from bit %d on, has the same sum", b, burst, at)
					}
				}
			}
		}
	}
}

// P2.2: all bursts of all windows of 32 bits. The difference of two sums hangs on the turned bits alone and is that of
// each bit, one upon the other; so no burst is missed if those of the 32 bits of a window are independent.
func TestNoBurstIsMissed(t *testing.T) {
	for _, n := range []int{4, 5, 9, 40, 300} {
		zeros := make([]byte, n)
		for at := range 8*n - 31 {
			if rank := independent(zeros, at); rank != 32 {
				t.Fatalf("P2.2: of the 32 bits from %d on, in %d bytes, %d are independent", at, n, rank)
			}
		}
	}
}

// independent answers how many of the 32 bits from at on make differences that none of the others make up.
func independent(b []byte, at int) int {
	var byTop [33]uint32
	rank, sum := 0, Of(b)
	for k := range 32 {
		d := Of(flipped(b, at, 1<<k)) ^ sum
		for d != 0 && byTop[bits.Len32(d)] != 0 {
			d ^= byTop[bits.Len32(d)]
		}
		if d != 0 {
			byTop[bits.Len32(d)] = d
			rank++
		}
	}
	return rank
}

// P2.2: what the test of all bursts rests on.
func TestDifferencesAddUp(t *testing.T) {
	for n := range 60 {
		a, b, c := mixed(n), slices.Repeat([]byte{0xa5}, n), make([]byte, n)
		for i := range c {
			c[i] = a[i] ^ b[i]
		}
		if Of(a)^Of(b) != Of(c)^Of(make([]byte, n)) {
			t.Fatalf("P2.2: differences of %d bytes don't add up", n)
		}
	}
}

// P2.2: no two pairs of bytes, all of which differ within 16 bits, have the same sum.
func TestTwoBytesHaveSumsOfTheirOwn(t *testing.T) {
	seen := make(map[uint32]int)
	for x := range 1 << 16 {
		sum := Of([]byte{byte(x), byte(x >> 8)})
		if y, ok := seen[sum]; ok {
			t.Fatalf("P2.2: the pairs of bytes %#x and %#x have one sum", x, y)
		}
		seen[sum] = x
	}
}
