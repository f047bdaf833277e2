package offs

import (
	"math"
	"slices"
	"strings"
	"testing"

	"headgate/api"
	"headgate/code"
)

// span answers the range from from to to.
func span(from, to int64) api.Range { return api.Range{From: from, To: to} }

// plainRight tells by the chapter's words whether ranges are right.
func plainRight(l []api.Range) bool {
	many := len(l) == 1 || len(l) == 2 || len(l) == 3 || len(l) == 4
	for _, r := range l {
		many = many && 0 <= r.From && r.From <= r.To && r.To <= 1<<40
	}
	return many
}

// plainRows answers how many places right ranges have.
func plainRows(l []api.Range) int64 {
	n := int64(0)
	if plainRight(l) {
		for _, r := range l {
			n += r.To - r.From
		}
	}
	return n
}

// plainFollows tells by the chapter's words whether b follows a.
func plainFollows(a, b []api.Range) bool {
	yes := plainRight(a) && plainRight(b) && len(a) == len(b)
	for i := 0; yes && i < len(a); i++ {
		yes = b[i].From == a[i].To
	}
	return yes
}

// plainTiles tells by the chapter's words whether l tile.
func plainTiles(l [][]api.Range) bool {
	for i, b := range l {
		a := make([]api.Range, len(b))
		if i > 0 {
			a = l[i-1]
		}
		if !plainFollows(a, b) {
			return false
		}
	}
	return true
}

// plainPack answers the bytes of ranges of few: how many numbers there are, and each by two and two.
func plainPack(l []api.Range) string {
	s := string([]byte{byte(2 * len(l))})
	for _, r := range l {
		for _, n := range []int64{2 * r.From, 2 * r.To} {
			for ; n >= 128; n /= 128 {
				s += string([]byte{byte(n%128 + 128)})
			}
			s += string([]byte{byte(n)})
		}
	}
	return s
}

// edges answers numbers on both sides of those at which ranges cease to be right.
func edges() []int64 {
	return []int64{math.MinInt64, math.MinInt64 + 1, -1 << 40, -1, 0, 1, 2, 63, 64, 300, 1<<40 - 1, 1 << 40, 1<<40 + 1, math.MaxInt64 - 1, math.MaxInt64}
}

// spans answers all ranges of two such numbers, right or not.
func spans() []api.Range {
	var l []api.Range
	for _, from := range edges() {
		for _, to := range edges() {
			l = append(l, span(from, to))
		}
	}
	return l
}

// lists answers ranges, right and not: each range alone, and at each place among right ones, of up to too many.
func lists() [][]api.Range {
	l := [][]api.Range{nil, {}}
	for _, r := range spans() {
		for parts := 1; parts <= 6; parts++ {
			for at := range parts {
				one := slices.Repeat([]api.Range{span(3, 8)}, parts)
				one[at] = r
				l = append(l, one)
			}
		}
	}
	return append(l, slices.Repeat([]api.Range{span(0, 1<<40)}, 4), slices.Repeat([]api.Range{span(0, 1)}, 1000))
}

// few answers all lists of up to two ranges of small numbers, right or not.
func few() [][]api.Range {
	var each []api.Range
	for from := int64(-1); from < 3; from++ {
		for to := int64(-1); to < 3; to++ {
			each = append(each, span(from, to))
		}
	}
	l := [][]api.Range{nil, make([]api.Range, 4), make([]api.Range, 5)}
	for _, a := range each {
		l = append(l, []api.Range{a})
		for _, b := range each {
			l = append(l, []api.Range{a, b})
		}
	}
	return l
}

// The chapter's examples.
func TestExamples(t *testing.T) {
	if b, e := Pack([]api.Range{span(0, 1)}); string(b) != "\x02\x00\x02" || e != api.OK {
		t.Errorf("P8.3: Pack: %x, %d", b, e)
	}
	if !Tiles([][]api.Range{{span(0, 2)}, {span(2, 2)}, {span(2, 5)}}) {
		t.Error("P8.2: Tiles")
	}
}

// P8.1
func TestCheck(t *testing.T) {
	for _, l := range append(lists(), few()...) {
		want := api.Errno(80)
		if plainRight(l) {
			want = api.OK
		}
		if e := Check(l); e != want {
			t.Errorf("P8.1: Check(%v): %d, not %d", l, e, want)
		}
	}
}

// P8.1
func TestStart(t *testing.T) {
	for _, parts := range []int{math.MinInt, -4, -1, 0, 5, 6, 1 << 32, 1<<32 + 1, math.MaxInt} {
		if l, e := Start(parts); len(l) != 0 || e != api.ErrOffs {
			t.Errorf("P8.1: Start(%d): %v, %d", parts, l, e)
		}
	}
	for parts := 1; parts <= 4; parts++ {
		if l, e := Start(parts); !slices.Equal(l, slices.Repeat([]api.Range{{}}, parts)) || e != api.OK {
			t.Errorf("P8.1: Start(%d): %v, %d", parts, l, e)
		}
	}
}

// P8.1
func TestRows(t *testing.T) {
	for _, c := range []struct {
		l []api.Range
		n int64
	}{
		{[]api.Range{span(0, 0)}, 0}, {[]api.Range{span(5, 9)}, 4}, {[]api.Range{span(5, 9), span(2, 2), span(0, 7)}, 11}, {[]api.Range{span(1<<40-1, 1<<40)}, 1},
		{slices.Repeat([]api.Range{span(0, 1<<40)}, 4), 1 << 42}, {slices.Repeat([]api.Range{span(0, 1)}, 5), 0}, {nil, 0}, {[]api.Range{span(0, 3), span(2, 1)}, 0}, {[]api.Range{span(-1, 3)}, 0}, {[]api.Range{span(0, 1<<40+1)}, 0},
	} {
		if n := Rows(c.l); n != c.n {
			t.Errorf("P8.1: Rows(%v): %d, not %d", c.l, n, c.n)
		}
	}
	for _, l := range append(lists(), few()...) {
		if n := Rows(l); n != plainRows(l) {
			t.Errorf("P8.1: Rows(%v): %d, not %d", l, n, plainRows(l))
		}
	}
}

// P8.2: all pairs of ranges of small numbers.
func TestFollows(t *testing.T) {
	for _, a := range few() {
		for _, b := range few() {
			if got := Follows(a, b); got != plainFollows(a, b) {
				t.Fatalf("P8.2: Follows(%v, %v): %t", a, b, got)
			}
		}
	}
}

// P8.2: ranges that are right or not, ahead of, and behind, such as would fit if they were.
func TestFollowsAtTheEdges(t *testing.T) {
	for _, l := range lists() {
		behind, ahead := slices.Clone(l), slices.Clone(l)
		for i, r := range l {
			behind[i] = span(r.To, max(r.To, 1<<40))
			ahead[i] = span(min(r.From, 0), r.From)
		}
		for _, c := range [][2][]api.Range{{l, behind}, {ahead, l}, {l, l}, {behind, ahead}} {
			if got := Follows(c[0], c[1]); got != plainFollows(c[0], c[1]) {
				t.Fatalf("P8.2: Follows(%v, %v): %t", c[0], c[1], got)
			}
		}
	}
	if !Follows([]api.Range{span(0, 1<<40)}, []api.Range{span(1<<40, 1<<40)}) {
		t.Error("P8.2: nothing behind the greatest place doesn't follow")
	}
	if !Follows([]api.Range{span(7, 9), span(1, 1), span(0, 2), span(4, 6)}, []api.Range{span(9, 9), span(1, 3), span(2, 2), span(6, 7)}) {
		t.Error("P8.2: ranges of four don't follow")
	}
	for at := range 4 {
		behind := []api.Range{span(9, 9), span(1, 3), span(2, 2), span(6, 7)}
		behind[at] = span(behind[at].From+1, 20)
		if Follows([]api.Range{span(7, 9), span(1, 1), span(0, 2), span(4, 6)}, behind) {
			t.Errorf("P8.2: ranges follow, but that at %d", at)
		}
	}
}

// tiled answers n ranges of so many parts that tile, cut in a way that hangs on seed.
func tiled(parts, n, seed int) [][]api.Range {
	ahead := make([]api.Range, parts)
	var l [][]api.Range
	for i := range n {
		next := make([]api.Range, parts)
		for p := range next {
			next[p] = span(ahead[p].To, ahead[p].To+int64((i*i+p+seed)%3))
		}
		l = append(l, next)
		ahead = next
	}
	return l
}

// P8.2: all lists of up to three ranges of one part, of small numbers.
func TestTilesOfFew(t *testing.T) {
	var each [][]api.Range
	for from := int64(-1); from < 4; from++ {
		for to := int64(-1); to < 4; to++ {
			each = append(each, []api.Range{span(from, to)})
		}
	}
	each = append(each, nil, []api.Range{{}, {}})
	for _, a := range each {
		for _, b := range each {
			for _, c := range each {
				l := [][]api.Range{a, b, c}
				for n := range 4 {
					if got := Tiles(l[:n]); got != plainTiles(l[:n]) {
						t.Fatalf("P8.2: Tiles(%v): %t", l[:n], got)
					}
				}
			}
		}
	}
}

// P8.2: ranges that tile, and such of which one number isn't as it should.
func TestTiles(t *testing.T) {
	if !Tiles(nil) || !Tiles([][]api.Range{}) {
		t.Error("P8.2: Tiles of none")
	}
	for _, l := range [][][]api.Range{{nil}, {{}}, {make([]api.Range, 5)}, {{{}}, nil}, {{{}}, {{}, {}}}, {{{}, {}}, {{}}}, {{span(0, 2)}, {span(2, 1<<40+1)}}, {{span(1, 2)}}, {{span(0, 0), span(1, 1)}}} {
		if Tiles(l) {
			t.Errorf("P8.2: Tiles(%v)", l)
		}
	}
	for parts := 1; parts <= 4; parts++ {
		for n := 1; n < 6; n++ {
			for seed := range 3 {
				l := tiled(parts, n, seed)
				if !Tiles(l) {
					t.Fatalf("P8.2: Tiles(%v): false", l)
				}
				for i, one := range l {
					for p, r := range one {
						for _, turned := range []api.Range{span(r.From+1, r.To+1), span(r.From-1, r.To), span(r.From+1, r.To), span(r.From, r.To+1), span(r.From, r.To-1)} {
							one[p] = turned
							if got := Tiles(l); got != plainTiles(l) {
								t.Fatalf("P8.2: Tiles(%v): %t, turned at %d, %d", l, got, i, p)
							}
						}
						one[p] = r
					}
				}
			}
		}
	}
}

// P8.3
func TestPack(t *testing.T) {
	for _, l := range append(lists(), few()...) {
		b, e := Pack(l)
		if !plainRight(l) {
			if len(b) != 0 || e != api.ErrOffs {
				t.Errorf("P8.3: Pack(%v): %x, %d", l, b, e)
			}
			continue
		}
		if string(b) != plainPack(l) || e != api.OK {
			t.Errorf("P8.3: Pack(%v): %x, %d, not %x", l, b, e, plainPack(l))
		}
	}
}

// P8.3, P8.4
func TestUnpackOfPack(t *testing.T) {
	for _, l := range append(lists(), few()...) {
		if !plainRight(l) {
			continue
		}
		b, _ := Pack(l)
		if got, e := Unpack(b); !slices.Equal(got, l) || e != api.OK {
			t.Errorf("P8.4: Unpack(Pack(%v)): %v, %d", l, got, e)
		}
	}
}

// none holds that there are no ranges of which s are the bytes.
func none(t *testing.T, s string) {
	t.Helper()
	if l, e := Unpack([]byte(s)); len(l) != 0 || e != api.ErrOffs {
		t.Errorf("P8.3: Unpack(%x): %v, %d", s, l, e)
	}
}

// P8.3: bytes of ranges that aren't right, of an odd number of numbers, cut off, with more behind them, and of another form.
func TestUnpackOfNone(t *testing.T) {
	if l, e := Unpack(nil); len(l) != 0 || e != api.ErrOffs {
		t.Errorf("P8.3: Unpack(nil): %v, %d", l, e)
	}
	for _, s := range []string{"", "\x00", "\x01\x00", "\x03\x00\x00\x00", "\x05\x00\x00\x00\x00\x00", "\x09" + strings.Repeat("\x00", 9), "\x0a" + strings.Repeat("\x00", 10), "\x02\x80\x00\x02", "\x82\x00\x00\x02", "\x02\x00", "\x02\x01\x02", "\x02\x04\x02", "\xff", strings.Repeat("\xff", 30)} {
		none(t, s)
	}
	for _, l := range append(lists(), few()...) {
		var nums []int64
		for _, r := range l {
			nums = append(nums, r.From, r.To)
		}
		if plainRight(l) {
			s := plainPack(l)
			for at := range len(s) {
				none(t, s[:at])
			}
			none(t, s+"\x00")
			none(t, s+s)
			nums = nums[1:]
		}
		b, e := code.Nums(nums)
		if e != api.OK {
			t.Fatal(e)
		}
		none(t, string(b))
	}
	b, _ := code.Nums(make([]int64, 1<<20))
	none(t, string(b))
	none(t, strings.Repeat("\x02", api.MaxFile+1))
}

// P8.3, P8.4: of all bytes of up to four that say that they tell two numbers, those are taken that Pack tells, and no others.
func TestUnpackOfAllShortBytes(t *testing.T) {
	taken := 0
	for x := range 1 << 24 {
		b := []byte{2, byte(x), byte(x >> 8), byte(x >> 16)}
		for n := range 3 {
			// Shorter ones are seen once, of those that end with zeros.
			if n < 2 && x>>(8*(n+1)) != 0 {
				continue
			}
			l, e := Unpack(b[:n+2])
			if e != api.OK {
				if len(l) != 0 || e != api.ErrOffs {
					t.Fatalf("P8.3: Unpack(%x): %v, %d", b[:n+2], l, e)
				}
				continue
			}
			taken++
			if plainPack(l) != string(b[:n+2]) || !plainRight(l) {
				t.Fatalf("P8.3: Unpack(%x): %v", b[:n+2], l)
			}
		}
	}
	// A number below 64 has one byte, one below 8192 two.
	const want = 64*65/2 + 64*(8192-64)
	if taken != want {
		t.Errorf("P8.3: %d ranges were taken, not %d", taken, want)
	}
}

// P8.4: of ranges that tile each place ahead of the last To stands in just one.
func TestEachPlaceStandsInOne(t *testing.T) {
	for parts := 1; parts <= 4; parts++ {
		for seed := range 6 {
			l := tiled(parts, 12, seed)
			if !Tiles(l) {
				t.Fatalf("P8.2: Tiles(%v): false", l)
			}
			total := int64(0)
			for p := range parts {
				last := l[len(l)-1][p].To
				for at := range last + 3 {
					n := 0
					for _, one := range l {
						if one[p].From <= at && at < one[p].To {
							n++
						}
					}
					if at < last && n != 1 || at >= last && n != 0 {
						t.Fatalf("P8.4: %d of part %d stands in %d of %v", at, p, n, l)
					}
				}
				total += last
			}
			for _, one := range l {
				total -= Rows(one)
			}
			if total != 0 {
				t.Errorf("P8.1: the Rows of %v are %d away from their places", l, total)
			}
		}
	}
}

// R4: what is handed in stays, spare room behind its end too.
func TestArgumentsStay(t *testing.T) {
	room := []api.Range{span(0, 1), span(0, 2), span(5, 6), span(7, 8)}
	many := [][]api.Range{room[:2], {span(1, 4), span(2, 2)}, {span(9, 9)}}
	Check(room[:2])
	Rows(room[:2])
	Follows(room[:2], many[1])
	Pack(room[:2])
	if !Tiles(many[:2]) || !Tiles(many[:1]) {
		t.Error("P8.2: Tiles")
	}
	if !slices.Equal(room, []api.Range{span(0, 1), span(0, 2), span(5, 6), span(7, 8)}) || &many[0][0] != &room[0] || !slices.Equal(many[1], []api.Range{span(1, 4), span(2, 2)}) || !slices.Equal(many[2], []api.Range{span(9, 9)}) {
		t.Errorf("R4: the ranges became %v, %v", room, many)
	}
	b := []byte("\x02\x00\x02behind")
	Unpack(b[:3])
	if string(b) != "\x02\x00\x02behind" {
		t.Errorf("R4: the bytes became %x", b)
	}
	if l, e := Unpack([]byte("\x04\x00\x02\x00\x02")[:3]); len(l) != 0 || e != api.ErrOffs {
		t.Errorf("P8.3: spare room is read: %v, %d", l, e)
	}
}

// R4, R6: what is told is the caller's, and nothing is kept.
func TestNothingIsShared(t *testing.T) {
	a, _ := Start(4)
	for i := range a {
		a[i] = span(7, 9)
	}
	if b, e := Start(4); !slices.Equal(b, make([]api.Range, 4)) || e != api.OK {
		t.Errorf("R6: Start: %v, %d", b, e)
	}
	if !Tiles([][]api.Range{make([]api.Range, 4)}) {
		t.Error("R6: Tiles")
	}
	bytes := []byte("\x02\x00\x02")
	l, _ := Unpack(bytes)
	m, _ := Unpack(bytes)
	l[0] = span(5, 5)
	if m[0] != span(0, 1) || string(bytes) != "\x02\x00\x02" {
		t.Errorf("R4: what was told is shared: %v, %x", m, bytes)
	}
	c, _ := Pack(m)
	d, _ := Pack(m)
	clear(c[:cap(c)])
	if string(d) != "\x02\x00\x02" || m[0] != span(0, 1) {
		t.Errorf("R4: what was told is shared: %x, %v", d, m)
	}
}
