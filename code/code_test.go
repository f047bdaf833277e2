package code

import (
	"encoding/binary"
	"encoding/hex"
	"math"
	"regexp"
	"slices"
	"strings"
	"testing"

	"headgate/api"
	"headgate/value"
)

// plainNum answers what the chapter's words make of n.
func plainNum(n uint64) string {
	if n < 128 {
		return string([]byte{byte(n)})
	}
	return string([]byte{byte(n%128 + 128)}) + plainNum(n/128)
}

func plainInt(n int64) string {
	if n >= 0 {
		return plainNum(2 * uint64(n))
	}
	return plainNum(2*uint64(-(n+1)) + 1)
}

func plainText(s string) string { return plainNum(uint64(len(s))) + s }

func plainValue(v api.Value) string {
	kind := string([]byte{byte(v.Kind)})
	switch v.Kind {
	case 1:
		return kind + plainInt(v.N)
	case 2:
		return kind + string([]byte{byte(v.N)})
	case 3:
		return kind + plainText(v.S)
	}
	return kind
}

func plainRow(l []api.Value) string { return plainList(l, plainValue) }

func plainCol(c api.Column) string { return plainText(c.Name) + string([]byte{byte(c.Kind)}) }

func plainPair(p api.Pair) string { return plainText(p.Key) + plainText(p.Val) }

func plainList[T any](l []T, one func(T) string) string {
	var s strings.Builder
	s.WriteString(plainNum(uint64(len(l))))
	for _, v := range l {
		s.WriteString(one(v))
	}
	return s.String()
}

// bytesOf answers the bytes that the digits of base 16 write.
func bytesOf(t *testing.T, digits string) string {
	t.Helper()
	b, err := hex.DecodeString(strings.ReplaceAll(digits, " ", ""))
	if err != nil {
		t.Fatal(err)
	}
	return string(b)
}

// numbers answers numbers at which one more digit, or one more bit, begins, and such as have unlike digits.
func numbers() []uint64 {
	l := []uint64{0, 3, 5, 127, 128, 129, 255, 256, 300, 16383, 16384, 1234567, 0x0123456789abcdef, 0xfedcba9876543210, math.MaxInt64, math.MaxUint64 - 1, math.MaxUint64}
	for k := range 64 {
		p := uint64(1) << k
		l = append(l, p-1, p, p+1)
	}
	slices.Sort(l)
	return slices.Compact(l)
}

func ints() []int64 {
	var l []int64
	for _, n := range numbers() {
		l = append(l, int64(n), -int64(n))
	}
	slices.Sort(l)
	return slices.Compact(l)
}

func texts() []string {
	return []string{
		"", "a", "\x00", "\x01", "\x03", "\x80", "\xff", "ab", "\x00\x00", "\x80\x01", "\xff\xfe", "\u00e4", "\u20ac", "\xe2\x82", "\xed\xa0\x80",
		strings.Repeat("x", 127), strings.Repeat("x", 128), strings.Repeat("\x80", 129), strings.Repeat("\x00", api.MaxText-1), strings.Repeat("\xff", api.MaxText),
	}
}

// values answers right values of all kinds.
func values() []api.Value {
	l := []api.Value{{}, {Kind: 2}, {Kind: 2, N: 1}}
	for _, n := range ints() {
		l = append(l, api.Value{Kind: 1, N: n})
	}
	for _, s := range texts() {
		l = append(l, api.Value{Kind: 3, S: s})
	}
	return l
}

// wrongValues answers values that aren't right, of a kind and of none.
func wrongValues() []api.Value {
	long := strings.Repeat("x", api.MaxText+1)
	return []api.Value{
		{N: 1}, {N: -1}, {S: "x"}, {Kind: 1, S: "x"}, {Kind: 1, N: 5, S: "\x00"}, {Kind: 2, N: 2}, {Kind: 2, N: -1}, {Kind: 2, N: 256}, {Kind: 2, N: 257}, {Kind: 2, S: "x"},
		{Kind: 3, N: 1}, {Kind: 3, N: -1, S: "x"}, {Kind: 3, S: long}, {Kind: 4}, {Kind: -1}, {Kind: -255}, {Kind: 255}, {Kind: 256}, {Kind: 257, N: 1}, {Kind: 259, S: "x"}, {Kind: math.MinInt}, {Kind: math.MaxInt},
	}
}

// rowLists answers lists of right rows: none, each value alone and in company, all lengths of rows, many rows.
func rowLists() [][][]api.Value {
	l := values()
	lists := [][][]api.Value{nil, {}, {nil}, {{}}, {nil, {}, nil}}
	var each, windows [][]api.Value
	for i, v := range l {
		lists = append(lists, [][]api.Value{{v}}, [][]api.Value{nil, {v, l[len(l)-1-i]}, {}})
		each = append(each, []api.Value{v})
		windows = append(windows, l[i:min(len(l), i+i%(api.MaxCols+1))])
	}
	most := slices.Repeat([]api.Value{l[len(l)-1]}, api.MaxCols)
	return append(lists, each, windows, [][]api.Value{most}, slices.Repeat([][]api.Value{{}, most, l[:api.MaxCols]}, 50))
}

func colLists() [][]api.Column {
	lists := [][]api.Column{nil, {}, {{}}, {{}, {}}}
	var all []api.Column
	for i, s := range texts() {
		all = append(all, api.Column{Name: s, Kind: i})
		lists = append(lists, []api.Column{{Name: s, Kind: 255 - i}, {Name: "next", Kind: i}})
	}
	for k := range 256 {
		all = append(all, api.Column{Name: "k", Kind: k})
		lists = append(lists, []api.Column{{Kind: k}})
	}
	return append(lists, all, []api.Column{{Name: strings.Repeat("n", 70000), Kind: 9}})
}

func pairLists() [][]api.Pair {
	lists := [][]api.Pair{nil, {}, {{}}, {{}, {}, {}}, {{Key: "a"}}, {{Val: "a"}}, {{Key: "a", Val: "b"}}}
	var all []api.Pair
	for _, a := range texts() {
		for _, b := range texts() {
			all = append(all, api.Pair{Key: a, Val: b})
		}
		lists = append(lists, slices.Clone(all))
	}
	return append(lists, []api.Pair{{Key: strings.Repeat("k", 70000), Val: strings.Repeat("v", 1<<14)}, {Key: "a", Val: "a"}})
}

func intLists() [][]int64 {
	lists := [][]int64{nil, {}}
	for n := range ints() {
		lists = append(lists, ints()[n:n+1], ints()[:n])
	}
	return append(lists, slices.Repeat(ints(), 3))
}

// P4.1: numbers and their bytes, written out by hand.
func TestNumNames(t *testing.T) {
	for _, c := range []struct {
		n      uint64
		digits string
	}{
		{0, "00"}, {1, "01"}, {127, "7f"}, {128, "8001"}, {129, "8101"}, {255, "ff01"}, {256, "8002"}, {300, "ac02"}, {16383, "ff7f"}, {16384, "808001"},
		{1 << 56, "808080808080808001"}, {1<<63 - 1, "ffffffffffffffff7f"}, {1 << 63, "80808080808080808001"}, {1<<64 - 1, "ffffffffffffffffff01"},
	} {
		if b := Num(c.n); string(b) != bytesOf(t, c.digits) {
			t.Errorf("P4.1: Num(%d): %x, not %s", c.n, b, c.digits)
		}
	}
}

// P4.1
func TestNum(t *testing.T) {
	for _, n := range numbers() {
		want := plainNum(n)
		if theirs := string(binary.AppendUvarint(nil, n)); theirs != want {
			t.Fatalf("the test's own bytes of %d are unlike: %x, %x", n, want, theirs)
		}
		if b := Num(n); string(b) != want {
			t.Errorf("P4.1: Num(%d): %x, not %x", n, b, want)
		}
	}
}

// P4.1: whatever stands behind the number, and if nothing does.
func TestUnnum(t *testing.T) {
	for _, n := range numbers() {
		s := plainNum(n)
		for _, behind := range []string{"", "\x00", "\x01", "\x7f", "\x80", "\xff", "\x80\x00", "x", strings.Repeat("\xff", 20)} {
			if m, k, e := Unnum([]byte(s + behind)); m != n || k != len(s) || e != api.OK {
				t.Errorf("P4.1: Unnum(%x): %d, %d, %d, not %d, %d", s+behind, m, k, e, n, len(s))
			}
		}
	}
}

// P4.1: nothing, digits that don't end, a last digit that need not be, and numbers of more than 64 bits.
func TestUnnumOfNone(t *testing.T) {
	nine := strings.Repeat("\xff", 9)
	l := []string{
		"", "\x80", "\xff", "\x80\x00", "\x81\x00", "\xff\x00", "\x80\x80\x00", "\x80\x00\x01", "\xac\x82\x00",
		nine, nine + "\x00", nine + "\x02", nine + "\x03", nine + "\x7f", nine + "\x80", nine + "\x81", nine + "\x81\x00", nine + "\x80\x01", nine + "\xff\x01", nine + nine + "\x01",
		strings.Repeat("\x80", 9) + "\x00", strings.Repeat("\x80", 9) + "\x02", strings.Repeat("\x80", 10) + "\x01", strings.Repeat("\x80", 10) + "\x00", strings.Repeat("\x80", 500),
	}
	for _, n := range numbers() {
		s := plainNum(n)
		for cut := range len(s) {
			l = append(l, s[:cut])
		}
		l = append(l, s[:len(s)-1]+string([]byte{s[len(s)-1] | 128})+"\x00")
	}
	for _, s := range l {
		if n, k, e := Unnum([]byte(s)); n != 0 || k != 0 || e != api.ErrCodeForm {
			t.Errorf("P4.1: Unnum(%x): %d, %d, %d", s, n, k, e)
		}
	}
	if n, k, e := Unnum(nil); n != 0 || k != 0 || e != api.ErrCodeForm {
		t.Errorf("P4.1: Unnum(nil): %d, %d, %d", n, k, e)
	}
}

// P4.1: all bytes of up to three, held against a reading of others that is told to be the shortest.
func TestUnnumOfAllShortBytes(t *testing.T) {
	for x := range 1 << 24 {
		b := []byte{byte(x), byte(x >> 8), byte(x >> 16)}
		n, k, e := Unnum(b)
		m, size := binary.Uvarint(b)
		none := size <= 0 || plainNum(m) != string(b[:size])
		if none && (n != 0 || k != 0 || e != api.ErrCodeForm) || !none && (n != m || k != size || e != api.OK) {
			t.Fatalf("P4.1: Unnum(%x): %d, %d, %d", b, n, k, e)
		}
	}
}

// P4.4: no bytes of a number begin as those of another one do.
func TestNoNumberBeginsAsAnother(t *testing.T) {
	l := numbers()
	for n := range uint64(70000) {
		l = append(l, n)
	}
	slices.Sort(l)
	var all []string
	for _, n := range slices.Compact(l) {
		all = append(all, string(Num(n)))
	}
	slices.Sort(all)
	for i, s := range all[1:] {
		if strings.HasPrefix(s, all[i]) {
			t.Fatalf("P4.4: the number %x begins as %x does", s, all[i])
		}
	}
}

// P4.1: of items of any type, in their order, one upon the other.
func TestList(t *testing.T) {
	if b := List([]string{"", "ab", "c"}, func(s string) []byte { return []byte(s) }); string(b) != "\x03abc" {
		t.Errorf("P4.1: List of texts: %x", b)
	}
	if b := List([]int{7, 8}, func(n int) []byte { return []byte{byte(n), 0} }); string(b) != "\x02\x07\x00\x08\x00" {
		t.Errorf("P4.1: List of numbers: %x", b)
	}
	if b := List([][]uint64{{1, 300}, nil}, func(l []uint64) []byte { return List(l, Num) }); string(b) != "\x02\x02\x01\xac\x02\x00" {
		t.Errorf("P4.1: List of lists: %x", b)
	}
	if b := List(make([]struct{}, 300), func(struct{}) []byte { return nil }); string(b) != "\xac\x02" {
		t.Errorf("P4.1: List of items without bytes: %x", b)
	}
	if b := List(numbers(), Num); string(b) != plainList(numbers(), plainNum) {
		t.Errorf("P4.1: List of all numbers: %x", b)
	}
	long := strings.Repeat("x", api.MaxFile)
	if b := List([]string{long, "y"}, func(s string) []byte { return []byte(s) }); string(b) != "\x02"+long+"y" {
		t.Errorf("P4.1: List of more than MaxFile bytes has %d", len(b))
	}
}

// P4.1: what one tells may lie in the same memory each time; it is asked once of each item.
func TestListAsksOnce(t *testing.T) {
	var asked []int
	own := []byte{0, 'x'}
	b := List([]int{4, 9, 4}, func(n int) []byte {
		asked = append(asked, n)
		own[0] = byte(n)
		return own
	})
	if string(b) != "\x03\x04x\x09x\x04x" || !slices.Equal(asked, []int{4, 9, 4}) {
		t.Errorf("P4.1: List: %x, asked of %#v", b, asked)
	}
	b[0], b[1], b[2] = 'a', 'b', 'c'
	if string(own) != "\x04x" {
		t.Errorf("R4: List tells the memory of what it was told: %x", own)
	}
}

// P4.1, R1: nothing is asked of a list without items; a function that isn't there tells no bytes.
func TestListOfNothing(t *testing.T) {
	never := func(int) []byte {
		t.Error("P4.1: an item was asked for")
		return nil
	}
	for _, l := range [][]int{nil, {}, []int{5}[:0]} {
		if b := List(l, never); string(b) != "\x00" {
			t.Errorf("P4.1: List of nothing: %x", b)
		}
		if b := List(l, nil); string(b) != "\x00" {
			t.Errorf("P4.1: List of nothing, without a function: %x", b)
		}
	}
	if b := List([]int{1, 2}, nil); string(b) != "\x02" {
		t.Errorf("R1: List without a function: %x", b)
	}
}

// both holds what is told of a list, and of its bytes, against each other and against want.
func both[T any](t *testing.T, l T, want string, pack func(T) ([]byte, api.Errno), unpack func([]byte) (T, api.Errno), plain func(T) string) {
	t.Helper()
	b, e := pack(l)
	if string(b) != want || e != api.OK {
		t.Fatalf("P4.2: %#v: %x, %d, not %x", l, b, e, want)
	}
	back, e := unpack([]byte(want))
	if e != api.OK || plain(back) != want {
		t.Fatalf("P4.3: of %x: %#v, %d", want, back, e)
	}
}

func plainRows(l [][]api.Value) string { return plainList(l, plainRow) }

func plainCols(l []api.Column) string { return plainList(l, plainCol) }

func plainPairs(l []api.Pair) string { return plainList(l, plainPair) }

func plainInts(l []int64) string { return plainList(l, plainInt) }

// P4.2, P4.3: lists and their bytes, written out by hand.
func TestListNames(t *testing.T) {
	for _, c := range []struct {
		l      [][]api.Value
		digits string
	}{
		{nil, "00"}, {[][]api.Value{nil}, "01 00"}, {[][]api.Value{{{Kind: 3, S: "a"}}}, "01 01 03 01 61"},
		{[][]api.Value{{{}, {Kind: 1, N: -1}, {Kind: 2, N: 1}}, {{Kind: 1, N: 150}, {Kind: 3}, {Kind: 2}}}, "02 03 00 01 01 02 01 03 01 ac 02 03 00 02 00"},
	} {
		both(t, c.l, bytesOf(t, c.digits), Rows, Unrows, plainRows)
	}
	both(t, nil, "\x00", Cols, Uncols, plainCols)
	both(t, []api.Column{{Name: "a", Kind: 1}, {Kind: 255}}, bytesOf(t, "02 01 61 01 00 ff"), Cols, Uncols, plainCols)
	both(t, nil, "\x00", Pairs, Unpairs, plainPairs)
	both(t, []api.Pair{{Key: "a", Val: "bc"}, {}}, bytesOf(t, "02 01 61 02 62 63 00 00"), Pairs, Unpairs, plainPairs)
	both(t, nil, "\x00", Nums, Unnums, plainInts)
	both(t, []int64{-1, 1}, bytesOf(t, "02 01 02"), Nums, Unnums, plainInts)
	both(t, []int64{0, -64, 64, math.MaxInt64, math.MinInt64}, bytesOf(t, "05 00 7f 80 01 fe ff ff ff ff ff ff ff ff 01 ff ff ff ff ff ff ff ff ff 01"), Nums, Unnums, plainInts)
}

// P4.2, P4.3, P4.4: what is told as bytes is told back from them.
func TestThereAndBack(t *testing.T) {
	for _, l := range rowLists() {
		both(t, l, plainRows(l), Rows, Unrows, plainRows)
		back, _ := Unrows([]byte(plainRows(l)))
		if !slices.EqualFunc(back, l, slices.Equal[[]api.Value]) {
			t.Fatalf("P4.4: %#v came back as %#v", l, back)
		}
	}
	for _, l := range colLists() {
		both(t, l, plainCols(l), Cols, Uncols, plainCols)
		if back, _ := Uncols([]byte(plainCols(l))); !slices.Equal(back, l) {
			t.Fatalf("P4.4: %#v came back as %#v", l, back)
		}
	}
	for _, l := range pairLists() {
		both(t, l, plainPairs(l), Pairs, Unpairs, plainPairs)
		if back, _ := Unpairs([]byte(plainPairs(l))); !slices.Equal(back, l) {
			t.Fatalf("P4.4: %#v came back as %#v", l, back)
		}
	}
	for _, l := range intLists() {
		both(t, l, plainInts(l), Nums, Unnums, plainInts)
		if back, _ := Unnums([]byte(plainInts(l))); !slices.Equal(back, l) {
			t.Fatalf("P4.4: %#v came back as %#v", l, back)
		}
	}
}

// formless holds that of s there is no list, of the kind that unpack reads.
func formless[T any](t *testing.T, s string, unpack func([]byte) ([]T, api.Errno)) {
	t.Helper()
	if l, e := unpack([]byte(s)); e != api.ErrCodeForm || len(l) != 0 {
		t.Fatalf("P4.3: of %x: %#v, %d", s[:min(len(s), 100)], l[:min(len(l), 10)], e)
	}
}

// P4.2
func TestWrongRows(t *testing.T) {
	right := values()
	wrong := [][]api.Value{slices.Repeat(right[:1], api.MaxCols+1), right[:api.MaxCols+1], right}
	for _, v := range wrongValues() {
		wrong = append(wrong, []api.Value{v}, []api.Value{{}, v}, append(slices.Repeat(right[:1], api.MaxCols-1), v))
	}
	for _, row := range wrong {
		for _, l := range [][][]api.Value{{row}, {nil, row}, {row, right[:3]}, {right[:3], right[4:9], row}} {
			if b, e := Rows(l); e != api.ErrCodeForm || len(b) != 0 {
				t.Errorf("P4.2: Rows(%#v): %x, %d", l, b, e)
			}
		}
	}
}

// P4.3: the bytes that a row would have, were it right.
func TestBytesOfWrongRows(t *testing.T) {
	right := values()
	formless(t, plainRows([][]api.Value{right[:api.MaxCols+1]}), Unrows)
	formless(t, plainRows([][]api.Value{slices.Repeat([]api.Value{{}}, api.MaxCols+1)}), Unrows)
	formless(t, plainRows([][]api.Value{{}, right[:2], slices.Repeat([]api.Value{{}}, 100)}), Unrows)
	for _, v := range []api.Value{{Kind: 3, S: strings.Repeat("x", api.MaxText+1)}, {Kind: 2, N: 2}, {Kind: 2, N: 128}, {Kind: 2, N: 255}, {Kind: 4}, {Kind: 5}, {Kind: 128}, {Kind: 255}} {
		formless(t, plainRows([][]api.Value{{v}}), Unrows)
		formless(t, plainRows([][]api.Value{{}, {right[5], v}, {}}), Unrows)
	}
	// A kind has a byte, whatever bits a number's digit would have.
	formless(t, "\x01\x01\x81\x00\x02", Unrows)
	formless(t, "\x01\x01\x80\x00", Unrows)
	formless(t, "\x01\x01\x02\x81\x00", Unrows)
}

// P4.2
func TestWrongCols(t *testing.T) {
	for _, k := range []int{-1, -2, -255, -256, 256, 257, 512, math.MaxInt32, 1 << 32, 1<<32 + 1, math.MinInt, math.MaxInt} {
		for _, l := range [][]api.Column{{{Name: "a", Kind: k}}, {{Kind: 1}, {Kind: k}}, {{Name: "a", Kind: k}, {Name: "b", Kind: 2}}} {
			if b, e := Cols(l); e != api.ErrCodeForm || len(b) != 0 {
				t.Errorf("P4.2: Cols(%#v): %x, %d", l, b, e)
			}
		}
	}
}

// P4.2: a list that is wrong and too long is wrong, wherever the wrong one stands.
func TestFormAheadOfLong(t *testing.T) {
	long := strings.Repeat("x", api.MaxFile)
	for _, l := range [][]api.Column{{{Name: long, Kind: 1}, {Kind: 256}}, {{Kind: -1}, {Name: long}}, {{Name: long, Kind: 256}}} {
		if b, e := Cols(l); e != api.ErrCodeForm || len(b) != 0 {
			t.Errorf("P4.2: Cols: %d bytes, %d", len(b), e)
		}
	}
	row := slices.Repeat([]api.Value{{Kind: 3, S: strings.Repeat("x", api.MaxText)}}, api.MaxCols)
	l := append(slices.Repeat([][]api.Value{row}, api.MaxFile/2000), []api.Value{{N: 1}})
	if b, e := Rows(l); e != api.ErrCodeForm || len(b) != 0 {
		t.Errorf("P4.2: Rows: %d bytes, %d", len(b), e)
	}
	if b, e := Rows(l[:len(l)-1]); e != api.ErrCodeLong || len(b) != 0 {
		t.Errorf("P4.2: Rows: %d bytes, %d", len(b), e)
	}
}

// atMost holds that a list of MaxFile bytes is told, there and back, and one of a byte more isn't.
func atMost[T any](t *testing.T, most, beyond []T, pack func([]T) ([]byte, api.Errno), unpack func([]byte) ([]T, api.Errno), plain func([]T) string) {
	t.Helper()
	want, more := plain(most), plain(beyond)
	if len(want) != api.MaxFile || len(more) != api.MaxFile+1 {
		t.Fatalf("the test's own lists have %d and %d bytes", len(want), len(more))
	}
	if b, e := pack(most); string(b) != want || e != api.OK {
		t.Errorf("P4.2: of MaxFile bytes: %d of them, %d", len(b), e)
	}
	if b, e := pack(beyond); len(b) != 0 || e != api.ErrCodeLong {
		t.Errorf("P4.2: of a byte more: %d of them, %d", len(b), e)
	}
	if l, e := unpack([]byte(want)); len(l) != len(most) || plain(l) != want || e != api.OK {
		t.Errorf("P4.3: of MaxFile bytes: %d items, %d", len(l), e)
	}
	formless(t, more, unpack)
}

// P4.2, P4.3
func TestAtMostMaxFile(t *testing.T) {
	long := strings.Repeat("x", api.MaxFile)
	atMost(t, []api.Pair{{Key: long[6:]}}, []api.Pair{{Key: long[5:]}}, Pairs, Unpairs, plainPairs)
	atMost(t, []api.Pair{{Key: "k"}, {Val: long[9:]}}, []api.Pair{{Key: "ke"}, {Val: long[9:]}}, Pairs, Unpairs, plainPairs)
	atMost(t, []api.Column{{Name: long[6:], Kind: 255}}, []api.Column{{Name: long[5:]}}, Cols, Uncols, plainCols)
	zeros := make([]int64, api.MaxFile-3)
	atMost(t, zeros[1:], zeros, Nums, Unnums, plainInts)
	// A count of three bytes, rows of 2048, and a last one for the rest.
	row := slices.Repeat([]api.Value{{Kind: 3, S: long[:167]}}, api.MaxCols)
	row[0].S = long[:168+6]
	l := slices.Repeat([][]api.Value{row}, api.MaxFile/2048)
	last := slices.Clone(row)
	last[1].S = long[:167-2]
	l[len(l)-1] = last
	m := slices.Clone(l)
	m[0] = slices.Clone(row)
	m[0][2].S = long[:168]
	atMost(t, l, m, Rows, Unrows, plainRows)
}

// P4.2: lists that would have far more bytes than there is room for.
func TestFarTooLong(t *testing.T) {
	long := strings.Repeat("x", api.MaxFile)
	if b, e := Pairs(slices.Repeat([]api.Pair{{Key: long, Val: long}}, 50000)); len(b) != 0 || e != api.ErrCodeLong {
		t.Errorf("P4.2: Pairs: %d bytes, %d", len(b), e)
	}
	if b, e := Cols(slices.Repeat([]api.Column{{Name: long}}, 50000)); len(b) != 0 || e != api.ErrCodeLong {
		t.Errorf("P4.2: Cols: %d bytes, %d", len(b), e)
	}
	if b, e := Pairs([]api.Pair{{Val: long}}); len(b) != 0 || e != api.ErrCodeLong {
		t.Errorf("P4.2: Pairs: %d bytes, %d", len(b), e)
	}
	if b, e := Nums(slices.Repeat([]int64{math.MinInt64}, 2000000)); len(b) != 0 || e != api.ErrCodeLong {
		t.Errorf("P4.2: Nums: %d bytes, %d", len(b), e)
	}
}

// P4.3: nothing, and more items, or bytes of a text, than there are.
func TestCountsWithoutItems(t *testing.T) {
	none := []string{"", "\x80", "\x80\x00", "\x81\x00", "\x01", "\x02\x00", "\x00\x00", "\x00\x01"}
	texts := []string{}
	for _, n := range []uint64{2, 127, 128, 1 << 24, 1<<24 + 1, 1 << 31, 1<<32 + 1, 1<<63 - 1, 1 << 63, 1<<63 + 1, 1<<64 - 1} {
		s := plainNum(n)
		none = append(none, s, s+"\x00", s+"\x01a\x01", "\x01"+s, "\x01"+s+"a\x00")
		texts = append(texts, "\x01\x01\x03"+s, "\x01\x01\x03"+s+"abc", "\x01\x01a"+s, "\x01\x01a"+s+"a")
	}
	for _, s := range none {
		formless(t, s, Unrows)
		formless(t, s, Uncols)
		formless(t, s, Unpairs)
	}
	for _, s := range texts {
		formless(t, s, Unrows)
		formless(t, s, Unpairs)
	}
	for _, s := range []string{"", "\x80", "\x00\x00", "\x01", "\x02\x00", "\x01\x00\x00", "\x01\x80", "\x01\x80\x00", plainNum(1<<64-1) + "\x00", "\x01\xff\xff\xff\xff\xff\xff\xff\xff\xff\x02"} {
		formless(t, s, Unnums)
	}
	formless(t, plainNum(1<<63)+strings.Repeat("\x00", 1000), Unnums)
}

// letters write bytes, a letter each, so that a pattern over them tells which bytes are a list's.
var letters = map[byte]byte{'0': 0, '1': 1, '2': 2, '3': 3, '8': 0x80, 'f': 0xff}

// patterned answers bytes and the pattern's word of them: all of up to most letters behind each front.
func patterned(pattern string, most int, fronts ...string) map[string]bool {
	right := regexp.MustCompile("^(" + pattern + ")$")
	words := make(map[string]bool)
	var grow func(s string, more int)
	grow = func(s string, more int) {
		raw := []byte(s)
		for i, c := range raw {
			raw[i] = letters[c]
		}
		words[string(raw)] = right.MatchString(s)
		if more == 0 {
			return
		}
		for c := range letters {
			grow(s+string(c), more-1)
		}
	}
	grow("", most)
	for _, front := range fronts {
		grow(front, most-1)
	}
	return words
}

// few answers the pattern of a list of up to three such items; a count of more bytes is that of more items than there is room for.
func few(item string) string {
	return "0|1" + item + "|2" + item + item + "|3" + item + item + item
}

const (
	numPattern  = "([8f]*[123]|0)"
	textPattern = "(0|1.|2..|3...)"
)

// agrees holds that of each of the bytes there is a list, whose bytes they are, or none, as the pattern says.
func agrees[T any](t *testing.T, words map[string]bool, unpack func([]byte) ([]T, api.Errno), plain func([]T) string) {
	t.Helper()
	lists := 0
	for s, right := range words {
		l, e := unpack([]byte(s))
		switch {
		case !right && (e != api.ErrCodeForm || len(l) != 0):
			t.Fatalf("P4.3: of %x: %#v, %d", s, l, e)
		case right && (e != api.OK || plain(l) != s):
			t.Fatalf("P4.4: of %x: %#v, %d", s, l, e)
		case right:
			lists++
		}
	}
	if lists < 50 {
		t.Fatalf("of %d bytes there are only %d lists", len(words), lists)
	}
}

// P4.3, P4.4: all bytes of few unlike ones, held against patterns.
func TestOfAllShortBytes(t *testing.T) {
	value := "(0|1" + numPattern + "|2[01]|3" + textPattern + ")"
	agrees(t, patterned(few("("+few(value)+")"), 6, "112", "213f", "2323", "13001"), Unrows, plainRows)
	agrees(t, patterned(few(textPattern+"."), 6, "2", "3f", "302"), Uncols, plainCols)
	agrees(t, patterned(few(textPattern+textPattern), 6, "21", "3000", "2201"), Unpairs, plainPairs)
	agrees(t, patterned(few(numPattern), 6, "1f8f8", "28f182", "3f3f3"), Unnums, plainInts)
}

// spoil hands on s, cut off anywhere, and with a byte turned, left out or put in anywhere.
func spoil(s string, hold func(string)) {
	for at := range len(s) {
		hold(s[:at])
		hold(s[:at] + s[at+1:])
		for _, c := range []byte{0, 1, 2, 3, 4, 12, 13, 'x', 0x7f, 0x80, 0x81, 0xff, s[at] ^ 1, s[at] ^ 128} {
			hold(s[:at] + string([]byte{c}) + s[at+1:])
			hold(s[:at] + string([]byte{c}) + s[at:])
		}
	}
	for _, behind := range []string{"\x00", "\x01", "\x80", "x", "\x00\x00", s} {
		hold(s + behind)
	}
}

// spoiled holds that of spoiled bytes of l there is no list, or one of just these bytes, which Unrows and its like tell as Rows and its like do.
func spoiled[T any](t *testing.T, l []T, pack func([]T) ([]byte, api.Errno), unpack func([]byte) ([]T, api.Errno)) {
	t.Helper()
	b, e := pack(l)
	if e != api.OK {
		t.Fatalf("P4.2: of %#v: %d", l, e)
	}
	spoil(string(b), func(s string) {
		got, e := unpack([]byte(s))
		if e != api.OK {
			if e != api.ErrCodeForm || len(got) != 0 {
				t.Fatalf("P4.3: of %x: %#v, %d", s, got, e)
			}
			return
		}
		if back, e := pack(got); string(back) != s || e != api.OK {
			t.Fatalf("P4.4: of %x: %#v, whose bytes are %x, %d", s, got, back, e)
		}
	})
	for at := range len(b) {
		formless(t, string(b[:at]), unpack)
	}
	for c := range 256 {
		formless(t, string(b)+string([]byte{byte(c)}), unpack)
	}
}

// cutOff holds that of the first bytes of s, with the others in the spare room behind them, there is no list.
func cutOff[T any](t *testing.T, s string, unpack func([]byte) ([]T, api.Errno)) {
	t.Helper()
	b := []byte(s)
	if _, e := unpack(b); e != api.OK {
		t.Fatalf("P4.3: of %x: %d", s, e)
	}
	for at := range b {
		if l, e := unpack(b[:at]); e != api.ErrCodeForm || len(l) != 0 {
			t.Errorf("P4.3: of %d bytes of %x: %#v, %d", at, s, l, e)
		}
	}
}

// P4.1, P4.3
func TestSpareRoomIsNotRead(t *testing.T) {
	cutOff(t, "\x01\x02\x03\x02ab\x01\x80\x01", Unrows)
	cutOff(t, "\x01\x03abc\x01", Uncols)
	cutOff(t, "\x01\x03abc\x02de", Unpairs)
	cutOff(t, "\x02\x80\x01\x02", Unnums)
	if n, k, e := Unnum([]byte("\xac\x02")[:1]); n != 0 || k != 0 || e != api.ErrCodeForm {
		t.Errorf("P4.1: Unnum with spare room: %d, %d, %d", n, k, e)
	}
}

// P4.3, P4.4
func TestOfSpoiledBytes(t *testing.T) {
	right := values()
	spoiled(t, nil, Rows, Unrows)
	spoiled(t, [][]api.Value{{{}, {Kind: 3, S: "ab"}, {Kind: 1, N: -300}}, {}, {{Kind: 2, N: 1}, {Kind: 3}}}, Rows, Unrows)
	spoiled(t, [][]api.Value{right[:api.MaxCols], right[len(right)-3:]}, Rows, Unrows)
	spoiled(t, []api.Column{{Name: "a", Kind: 1}, {Kind: 0}, {Name: strings.Repeat("n", 130), Kind: 200}}, Cols, Uncols)
	spoiled(t, []api.Pair{{Key: "a", Val: "\x00\x80"}, {}, {Key: strings.Repeat("n", 130), Val: "\x01a"}}, Pairs, Unpairs)
	spoiled(t, []int64{0, -1, 1, 64, -65, 1 << 20, math.MinInt64, math.MaxInt64}, Nums, Unnums)
}

// R4: what is handed in stays, spare room behind its end too.
func TestArgumentsStay(t *testing.T) {
	cols, pairs, nums := []api.Column{{Name: "a", Kind: 1}, {Kind: 2}, {Kind: 3}}, []api.Pair{{Key: "a"}, {Val: "b"}, {Key: "c"}}, []int64{5, -6, 7}
	rows := [][]api.Value{values()[:5:9], values()[3:6], {{Kind: 9}}}
	Rows(rows[:2])
	Cols(cols[:2])
	Pairs(pairs[:2])
	Nums(nums[:2])
	if !slices.Equal(rows[0], values()[:5]) || !slices.Equal(rows[0][:9], values()[:9]) || !slices.Equal(rows[1], values()[3:6]) || rows[2][0].Kind != 9 {
		t.Errorf("R4: the rows are %#v", rows)
	}
	if cols[2].Kind != 3 || cols[0].Name != "a" || pairs[2].Key != "c" || pairs[1].Val != "b" || !slices.Equal(nums, []int64{5, -6, 7}) {
		t.Errorf("R4: the lists are %#v, %#v, %#v", cols, pairs, nums)
	}
	for _, s := range []string{"\x01\x01\x03\x01a", "\x01\x01a\x01", "\x01\x01a\x01b", "\x02\x01\x02", "\x80"} {
		b := append([]byte(s), "behind"...)
		front := b[:len(s)]
		Unnum(front)
		Unrows(front)
		Uncols(front)
		Unpairs(front)
		Unnums(front)
		if string(b) != s+"behind" {
			t.Errorf("R4: %x became %x", s, b)
		}
	}
}

// R4: what is told is the caller's: no memory of the bytes, of another answer, or of another list in the same one.
func TestNothingIsShared(t *testing.T) {
	l := [][]api.Value{values()[:3], {{Kind: 3, S: "text"}}, values()[4:9]}
	s := plainRows(l)
	b := []byte(s)
	got, _ := Unrows(b)
	pairs, _ := Unpairs([]byte("\x01\x01a\x01b"))
	for i := range b {
		b[i] = 'z'
	}
	for i, row := range got {
		if !slices.Equal(row, l[i]) {
			t.Fatalf("R4: the rows became %#v", got)
		}
		_ = append(row, value.Int(1), value.Int(2), value.Int(3))
		clear(row)
	}
	if again, e := Unrows([]byte(s)); e != api.OK || plainRows(again) != s {
		t.Errorf("R6: Unrows: %#v, %d", again, e)
	}
	a, _ := Pairs(pairs)
	c, _ := Pairs(pairs)
	clear(a[:cap(a)])
	if string(c) != "\x01\x01a\x01b" || pairs[0].Key != "a" {
		t.Errorf("R4: what was told is shared: %x", c)
	}
	n, m := Num(300), Num(300)
	n[0] = 0
	if string(m) != "\xac\x02" || string(Num(300)) != "\xac\x02" {
		t.Errorf("R4: Num tells one memory twice: %x", m)
	}
}
