package frame

import (
	"bytes"
	"encoding/binary"
	"encoding/hex"
	"fmt"
	"hash/crc32"
	"iter"
	"slices"
	"testing"

	"headgate/api"
)

// plainFrame answers what the chapter's words make of b.
func plainFrame(b []byte) []byte {
	f := binary.BigEndian.AppendUint32(nil, uint32(len(b)))
	f = binary.BigEndian.AppendUint32(f, crc32.Checksum(slices.Concat(f, b), crc32.MakeTable(crc32.Castagnoli)))
	return append(f, b...)
}

// plainOne answers the bytes of which b is the frame, and whether there are some.
func plainOne(b []byte) ([]byte, bool) {
	if len(b) < 8 || !bytes.Equal(plainFrame(b[8:]), b) {
		return nil, false
	}
	return b[8:], true
}

// plainScan answers the frames with which b begins, by trying each length that a first one may have.
func plainScan(b []byte) ([][]byte, int) {
	for n := range len(b) + 1 {
		if body, ok := plainOne(b[:n]); ok {
			l, end := plainScan(b[n:])
			return append([][]byte{body}, l...), n + end
		}
	}
	return nil, 0
}

// mixed answers n bytes of all kinds, by a rule without chance.
func mixed(n int) []byte {
	b, x := make([]byte, n), uint32(n)
	for i := range b {
		x = x*1664525 + 1013904223
		b[i] = byte(x >> 24)
	}
	return b
}

// bodies answers what frames may have in them: nothing, each byte alone, equal bytes, frames, and mixed bytes of many lengths.
func bodies() [][]byte {
	l := [][]byte{nil, {}}
	for x := range 256 {
		l = append(l, []byte{byte(x)}, []byte{0, byte(x)})
	}
	for n := range 40 {
		l = append(l, make([]byte, n), slices.Repeat([]byte{255}, n), mixed(n))
	}
	for _, n := range []int{127, 128, 255, 256, 257, 1023, 1024, 1025, 65535, 65536, 65537} {
		l = append(l, mixed(n))
	}
	return append(l, plainFrame(nil), plainFrame([]byte("ab")), plainFrame(plainFrame(mixed(9))))
}

// lists answers lists of what is in frames that stand one behind the other.
func lists() [][][]byte {
	return [][][]byte{
		nil,
		{{}},
		{{}, {}, {}, {}, {}},
		{[]byte("a")},
		{{}, []byte("a"), {}},
		{[]byte("ab"), []byte("ab"), []byte("c")},
		{plainFrame(nil), plainFrame(plainFrame([]byte("in"))), {0, 0, 0, 0}},
		{mixed(1), mixed(2), mixed(3), {}, mixed(40), make([]byte, 12), slices.Repeat([]byte{255}, 9)},
	}
}

// framed answers the frames of l, one behind the other.
func framed(l ...[]byte) []byte {
	var b []byte
	for _, body := range l {
		b = append(b, plainFrame(body)...)
	}
	return b
}

func same(a, b [][]byte) bool { return slices.EqualFunc(a, b, bytes.Equal) }

// A found is what an iterator tells of a frame.
type found struct {
	at   int
	body string
}

func (f found) String() string { return fmt.Sprintf("%d: %x", f.at, f.body) }

func walked(seq iter.Seq2[int, []byte]) []found {
	var l []found
	for at, b := range seq {
		l = append(l, found{at, string(b)})
	}
	return l
}

// foundIn answers what All is to tell of frames of l.
func foundIn(l [][]byte) []found {
	var want []found
	at := 0
	for _, b := range l {
		want = append(want, found{at, string(b)})
		at += 8 + len(b)
	}
	return want
}

// hold holds One, Scan and All of b against the chapter's words.
func hold(t *testing.T, b []byte) {
	t.Helper()
	body, ok := plainOne(b)
	switch got, e := One(b); {
	case ok && (e != api.OK || !bytes.Equal(got, body)):
		t.Fatalf("P5.1: One(%x): %x, %d, not %x", b, got, e, body)
	case !ok && (e != api.ErrFrameSum || len(got) != 0):
		t.Fatalf("P5.1: One(%x): %x, %d", b, got, e)
	}
	want, end := plainScan(b)
	if l, n := Scan(b); n != end || !same(l, want) {
		t.Fatalf("P5.2: Scan(%x): %x, %d, not %x, %d", b, l, n, want, end)
	}
	if l := walked(All(b)); !slices.Equal(l, foundIn(want)) {
		t.Fatalf("P5.3: All(%x): %v, not %v", b, l, foundIn(want))
	}
}

// P5.1: bytes written out.
func TestPackNames(t *testing.T) {
	for _, c := range []struct{ b, frame string }{
		{"", "0000000048674bc7"},
		{"a", "00000001c57dfe2361"},
		{"ab", "000000020b8670636162"},
		{"\x00\x00\x00\x00", "000000046c6d0c3a00000000"},
		{"123456789", "000000096934cf6f313233343536373839"},
	} {
		f, e := Pack([]byte(c.b))
		if hex.EncodeToString(f) != c.frame || e != api.OK {
			t.Errorf("P5.1: Pack(%q): %x, %d, not %s", c.b, f, e, c.frame)
		}
		frame, _ := hex.DecodeString(c.frame)
		if b, e := One(frame); string(b) != c.b || e != api.OK {
			t.Errorf("P5.1: One(%s): %q, %d", c.frame, b, e)
		}
	}
}

// P5.1
func TestThereAndBack(t *testing.T) {
	for _, b := range bodies() {
		f, e := Pack(b)
		if !bytes.Equal(f, plainFrame(b)) || e != api.OK {
			t.Fatalf("P5.1: Pack(%d bytes from %x): %d bytes, %d", len(b), b[:min(4, len(b))], len(f), e)
		}
		if back, e := One(f); !bytes.Equal(back, b) || e != api.OK {
			t.Fatalf("P5.1: One of the frame of %d bytes: %d bytes, %d", len(b), len(back), e)
		}
		if l, n := Scan(f); n != len(f) || !same(l, [][]byte{b}) {
			t.Fatalf("P5.2: Scan of the frame of %d bytes: %d frames, %d", len(b), len(l), n)
		}
	}
}

// P5.1: the length has more than its two lowest bytes, and stands highest byte first.
func TestPackAtMost(t *testing.T) {
	b := mixed(api.MaxFile - 8)
	f, e := Pack(b)
	if e != api.OK || len(f) != api.MaxFile || hex.EncodeToString(f[:4]) != "00fffff8" || !bytes.Equal(f, plainFrame(b)) {
		t.Fatalf("P5.1: Pack of the most: %d bytes, %d", len(f), e)
	}
	if back, e := One(f); e != api.OK || !bytes.Equal(back, b) {
		t.Errorf("P5.1: One of the most: %d bytes, %d", len(back), e)
	}
	if l, n := Scan(f); n != len(f) || !same(l, [][]byte{b}) {
		t.Errorf("P5.2: Scan of the most: %d frames, %d", len(l), n)
	}
	for _, n := range []int{api.MaxFile - 7, api.MaxFile - 1, api.MaxFile, api.MaxFile + 1, 2 * api.MaxFile} {
		if f, e := Pack(make([]byte, n)); e != api.ErrFrameLong || len(f) != 0 {
			t.Errorf("P5.1: Pack(%d bytes): %d bytes, %d", n, len(f), e)
		}
	}
}

// P5.1, P5.2: the form has no greatest length; it is Pack that makes no longer ones.
func TestFramesThatPackDoesNotMake(t *testing.T) {
	b := make([]byte, api.MaxFile-7)
	f := plainFrame(b)
	if back, e := One(f); e != api.OK || !bytes.Equal(back, b) {
		t.Errorf("P5.1: One of a longer frame: %d bytes, %d", len(back), e)
	}
	if l, n := Scan(f); n != len(f) || !same(l, [][]byte{b}) {
		t.Errorf("P5.2: Scan of a longer frame: %d frames, %d", len(l), n)
	}
}

// P5.1, P5.2, P5.3
func TestOfNoFrame(t *testing.T) {
	hold(t, nil)
	hold(t, []byte{})
	for n := range 40 {
		hold(t, make([]byte, n))
		hold(t, slices.Repeat([]byte{255}, n))
		hold(t, mixed(n))
	}
	if _, e := One(nil); e != api.ErrFrameSum {
		t.Errorf("P5.1: One(nothing): %d", e)
	}
}

// summed answers bytes that claim to be n, with the sum that these bytes and b have.
func summed(n uint32, b []byte) []byte {
	length := binary.BigEndian.AppendUint32(nil, n)
	sum := crc32.Checksum(slices.Concat(length, b), crc32.MakeTable(crc32.Castagnoli))
	return append(binary.BigEndian.AppendUint32(length, sum), b...)
}

// P5.1, P5.2: however many bytes are claimed, those that are there are none of a frame, though the sum be theirs.
func TestClaimedLengths(t *testing.T) {
	for _, b := range [][]byte{nil, []byte("a"), []byte("abcd"), mixed(8), mixed(20)} {
		size := uint32(len(b))
		for _, n := range []uint32{size + 1, size + 4, size + 8, 255, 256, 1 << 16, api.MaxFile - 8, api.MaxFile, 1 << 24, 1<<31 - 1, 1 << 31, 1<<31 + size, -size, 1<<32 - 9, 1<<32 - 8, 1<<32 - 7, 1<<32 - 1} {
			if n == size {
				continue
			}
			hold(t, summed(n, b))
			hold(t, slices.Concat(plainFrame([]byte("ahead")), summed(n, b)))
		}
		if size > 0 {
			hold(t, summed(size-1, b))
			hold(t, summed(0, b))
		}
	}
}

// P5.1: bytes that are laid like a frame, but with another sum or the words another way round.
func TestOtherForms(t *testing.T) {
	table := crc32.MakeTable(crc32.Castagnoli)
	for _, b := range [][]byte{[]byte("a"), []byte("abcd"), mixed(300)} {
		big, little := binary.BigEndian.AppendUint32, binary.LittleEndian.AppendUint32
		n, length := uint32(len(b)), big(nil, uint32(len(b)))
		sum := crc32.Checksum(slices.Concat(length, b), table)
		for i, f := range [][]byte{
			slices.Concat(little(length, sum), b),
			slices.Concat(big(little(nil, n), sum), b),
			slices.Concat(big(little(nil, n), crc32.Checksum(slices.Concat(little(nil, n), b), table)), b),
			slices.Concat(big(length, crc32.Checksum(b, table)), b),
			slices.Concat(big(length, crc32.Checksum(length, table)), b),
			slices.Concat(big(length, crc32.Checksum(slices.Concat(b, length), table)), b),
			slices.Concat(big(length, crc32.ChecksumIEEE(slices.Concat(length, b))), b),
			slices.Concat(big(length, ^sum), b),
			slices.Concat(big(nil, sum), length, b),
			slices.Concat(length, b, big(nil, sum)),
		} {
			if body, e := One(f); e != api.ErrFrameSum || len(body) != 0 {
				t.Errorf("P5.1: form %d of %d bytes: %x, %d", i, len(b), body, e)
			}
			hold(t, f)
		}
	}
}

// P5.2, P5.3, P5.4: frames whole, and cut off anywhere.
func TestFramesCutOff(t *testing.T) {
	for _, l := range lists() {
		b := framed(l...)
		if got, n := Scan(b); n != len(b) || !same(got, l) {
			t.Fatalf("P5.2: Scan(%x): %x, %d", b, got, n)
		}
		if got := walked(All(b)); !slices.Equal(got, foundIn(l)) {
			t.Fatalf("P5.3: All(%x): %v", b, got)
		}
		whole, end := 0, 0
		for k := range len(b) + 1 {
			if whole < len(l) && k == end+8+len(l[whole]) {
				end, whole = k, whole+1
			}
			// The bytes that were cut off lie in the spare room behind.
			if got, n := Scan(b[:k]); n != end || !same(got, l[:whole]) {
				t.Fatalf("P5.4: Scan of %d bytes of %x: %x, %d", k, b, got, n)
			}
			hold(t, b[:k])
		}
	}
}

// P5.2, P5.3: what is behind the frames.
func TestFramesAndMore(t *testing.T) {
	for _, l := range lists() {
		b := framed(l...)
		for _, tail := range [][]byte{{0}, {1}, {255}, make([]byte, 8), make([]byte, 20), mixed(30), plainFrame(mixed(5))[1:], summed(3, []byte("ab")), []byte("text behind")} {
			more := slices.Concat(b, tail)
			if got, n := Scan(more); n != len(b) || !same(got, l) {
				t.Fatalf("P5.2: Scan(%x): %x, %d", more, got, n)
			}
			// A frame behind what is none isn't reached.
			hold(t, slices.Concat(more, plainFrame([]byte("lost"))))
			if len(l) > 0 {
				if body, e := One(more); e != api.ErrFrameSum || len(body) != 0 {
					t.Fatalf("P5.1: One(%x): %x, %d", more, body, e)
				}
			}
		}
		if len(l) > 1 {
			if body, e := One(b); e != api.ErrFrameSum || len(body) != 0 {
				t.Fatalf("P5.1: One of %d frames: %x, %d", len(l), body, e)
			}
		}
	}
}

// P5.2, P5.3: a file of frames, as many as there may be.
func TestManyFrames(t *testing.T) {
	const count = api.MaxFile / 8
	b := bytes.Repeat(plainFrame(nil), count)
	l, n := Scan(b)
	if len(l) != count || n != len(b) || len(slices.Concat(l...)) != 0 {
		t.Errorf("P5.2: Scan of %d empty frames: %d, %d", count, len(l), n)
	}
	next := 0
	for at, body := range All(b) {
		if at != next || len(body) != 0 {
			t.Fatalf("P5.3: All of empty frames: %d, %x, not %d", at, body, next)
		}
		next += 8
	}
	if next != len(b) {
		t.Errorf("P5.3: All of empty frames ends at %d", next)
	}
}

// P5.3: a walk that is left early asks no more, and the next one begins at the first frame.
func TestWalksLeftEarly(t *testing.T) {
	l := lists()[len(lists())-1]
	all, want := All(framed(l...)), foundIn(l)
	for stop := range len(l) {
		var got []found
		for at, b := range all {
			got = append(got, found{at, string(b)})
			if len(got) > stop {
				break
			}
		}
		if !slices.Equal(got, want[:stop+1]) {
			t.Fatalf("P5.3: left at %d: %v, not %v", stop, got, want[:stop+1])
		}
	}
	asked := 0
	all(func(int, []byte) bool { asked++; return false })
	if asked != 1 {
		t.Errorf("P5.3: asked %d times though the answer was false", asked)
	}
	if got := walked(all); !slices.Equal(got, want) {
		t.Errorf("P5.3: the walk behind those left early: %v", got)
	}
}

// P5.3: walks of one iterator within one another are each on its own.
func TestWalksInWalks(t *testing.T) {
	l := lists()[5]
	all, want := All(framed(l...)), foundIn(l)
	i := 0
	for at, b := range all {
		if (found{at, string(b)}) != want[i] || !slices.Equal(walked(all), want) {
			t.Fatalf("P5.3: a walk within a walk, at %d", at)
		}
		i++
	}
	if i != len(want) {
		t.Errorf("P5.3: the outer walk ends behind %d", i)
	}
}

// P5.3, R4: of b as it was at the call, whatever is done with it, or with what a walk tells.
func TestAllIsOfTheCall(t *testing.T) {
	l := lists()[7]
	want := foundIn(l)
	b := framed(l...)
	all := All(b)
	clear(b)
	if got := walked(all); !slices.Equal(got, want) {
		t.Fatalf("P5.3: b was changed behind the call: %v", got)
	}
	b = framed(l...)
	i := 0
	for at, body := range All(b) {
		clear(b)
		if (found{at, string(body)}) != want[i] {
			t.Fatalf("P5.3: b was changed during the walk: %d, %x", at, body)
		}
		i++
	}
	for _, body := range all {
		clear(body[:cap(body)])
		_ = append(body, "behind what was told"...)
	}
	if got := walked(all); !slices.Equal(got, want) {
		t.Errorf("R4: what a walk told was changed: %v", got)
	}
	b = framed(l...)
	grown := All(b[:8])
	copy(b[:8], plainFrame(nil))
	if got := walked(grown); len(got) != 0 {
		t.Errorf("P5.3: b became a frame behind the call: %v", got)
	}
}

// flipped answers b with a burst of turned bits: bit k of burst turns bit at + k, the lowest of each byte first.
func flipped(b []byte, at int, burst uint32) []byte {
	b = slices.Clone(b)
	for k := range 32 {
		if burst>>k&1 == 1 {
			b[(at+k)/8] ^= 1 << ((at + k) % 8)
		}
	}
	return b
}

// bursts answers ways to turn bits within n of them: each alone, each two, all between two, and mixed ones.
func bursts(n int) []uint32 {
	var l []uint32
	for i := range n {
		l = append(l, 1<<i)
		for j := range i {
			l = append(l, 1<<i|1<<j, 1<<i|(1<<i-1<<j))
		}
	}
	x := uint32(n)
	for range 50 {
		x = x*1664525 + 1013904223
		l = append(l, (x^x>>16)&uint32(1<<uint(n)-1)|1)
	}
	return l
}

// turned hands on the frame of b, turned within 32 bits that lie in its sum, or behind that.
func turned(b []byte, hold func([]byte)) {
	f := plainFrame(b)
	for at := 32; at < 8*len(f); at++ {
		end := 64
		if at >= 64 {
			end = 8 * len(f)
		}
		for _, burst := range bursts(min(32, end-at)) {
			hold(flipped(f, at, burst))
		}
	}
}

// P5.4
func TestTurnedFrames(t *testing.T) {
	ahead, behind := []byte("ahead"), plainFrame([]byte("behind"))
	for _, b := range [][]byte{nil, []byte("a"), make([]byte, 4), mixed(5), slices.Repeat([]byte{255}, 9), mixed(31), plainFrame([]byte("in"))} {
		turned(b, func(f []byte) {
			if body, e := One(f); e != api.ErrFrameSum || len(body) != 0 {
				t.Fatalf("P5.4: One(%x) of the frame of %x, turned: %x, %d", f, b, body, e)
			}
			all := slices.Concat(plainFrame(ahead), f, behind)
			if l, n := Scan(all); n != 13 || !same(l, [][]byte{ahead}) {
				t.Fatalf("P5.4: Scan(%x): %x, %d", all, l, n)
			}
		})
	}
}

// P5.1, P5.2, P5.3: frames with a byte turned, left out or put in anywhere, their length's bytes too.
func TestSpoiledFrames(t *testing.T) {
	for _, l := range lists() {
		b := framed(l...)
		for at := range b {
			hold(t, slices.Concat(b[:at], b[at+1:]))
			for _, c := range []byte{0, 1, 2, 4, 8, 0x7f, 0x80, 0xff, b[at] ^ 1, b[at] ^ 128} {
				hold(t, slices.Concat(b[:at], []byte{c}, b[at+1:]))
				hold(t, slices.Concat(b[:at], []byte{c}, b[at:]))
			}
		}
	}
}

// R4: what is handed in stays, spare room behind its end too.
func TestArgumentsStay(t *testing.T) {
	for _, l := range lists() {
		b := framed(l...)
		for _, k := range []int{0, len(b) / 2, len(b)} {
			room := slices.Concat(b, []byte("behind"))
			part := room[:k]
			Pack(part)
			One(part)
			l, _ := Scan(part)
			for _, body := range l {
				_ = append(body, "more"...)
				clear(body)
			}
			for _, body := range All(part) {
				_ = append(body, "more"...)
				clear(body)
			}
			if string(room) != string(b)+"behind" {
				t.Fatalf("R4: %x became %x", b, room)
			}
		}
	}
}

// R4: what is told shares no memory with what was handed in, with another answer, or with another list of the same one.
func TestNothingIsShared(t *testing.T) {
	b := []byte("abc")
	f, _ := Pack(b)
	again, _ := Pack(b)
	clear(b)
	if !bytes.Equal(f, plainFrame([]byte("abc"))) {
		t.Errorf("R4: the frame became %x", f)
	}
	body, _ := One(f)
	clear(f[:cap(f)])
	if string(body) != "abc" || !bytes.Equal(again, plainFrame([]byte("abc"))) {
		t.Errorf("R4: what was told became %q, %x", body, again)
	}
	l := lists()[7]
	all := framed(l...)
	got, _ := Scan(all)
	clear(all)
	if !same(got, l) {
		t.Fatalf("R4: the frames became %x", got)
	}
	for i := range got {
		own := got[i]
		_ = append(own, "more than there is room for"...)
		clear(own[:cap(own)])
		if !same(got[i+1:], l[i+1:]) {
			t.Fatalf("R4: behind a change of %d: %x", i, got)
		}
	}
}

// R6: nothing is kept between calls.
func TestCallsAreAlike(t *testing.T) {
	b := framed(lists()[7]...)
	for range 3 {
		hold(t, b)
		hold(t, b[:len(b)-1])
		hold(t, plainFrame([]byte("ab")))
	}
}
