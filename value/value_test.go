package value

import (
	"cmp"
	"encoding/hex"
	"math"
	"regexp"
	"slices"
	"strings"
	"testing"

	"headgate/api"
)

// rising answers right values, each of another place in the order, the first one first.
func rising() []api.Value {
	most := strings.Repeat("\xff", api.MaxText)
	l := []api.Value{{}}
	for _, n := range []int64{
		math.MinInt64, math.MinInt64 + 1, -1 << 56, -1 << 32, -1 << 31, -65536, -257, -256, -255, -128, -2, -1,
		0, 1, 2, 127, 128, 255, 256, 257, 65535, 65536, 1 << 31, 1 << 32, 1 << 56, math.MaxInt64 - 1, math.MaxInt64,
	} {
		l = append(l, api.Value{Kind: 1, N: n})
	}
	l = append(l, api.Value{Kind: 2}, api.Value{Kind: 2, N: 1})
	for _, s := range []string{
		"", "\x00", "\x00\x00", "\x00\x00\x00", strings.Repeat("\x00", api.MaxText), "\x00\x00\x01", "\x00\x00\xff", "\x00\x01", "\x00a", "\x00\xfe", "\x00\xff", "\x00\xff\x00", "\x00\xff\x00\x00", "\x00\xff\xff",
		"\x01", "\x01\x00", "\x01\x01", "\x02", "\x03\x01", "\x04", "\x04\x00\x00", "A", "Z",
		"a", "a\x00", "a\x00\x00", "a\x00b", "a\x00\xff", "a\x01", "aa", "ab", strings.Repeat("ab", api.MaxText/2), "a\xff", "b", "\x7f", "\x80",
		"\xc3\xa4", "\xe2\x82", "\xe2\x82\xac", "\xed\xa0\x80", "\xf0\x9f\x98\x80", "\xfe", "\xff", "\xff\x00", "\xff\x00\xff", "\xff\xfe", "\xff\xff", most[1:], most,
	} {
		l = append(l, api.Value{Kind: 3, S: s})
	}
	return l
}

// few answers some values of all kinds, in their order, such as may take each other's bytes in a key.
func few() []api.Value {
	return []api.Value{
		{}, {Kind: 1, N: math.MinInt64}, {Kind: 1, N: -1}, {Kind: 1}, {Kind: 1, N: 256}, {Kind: 1, N: math.MaxInt64}, {Kind: 2}, {Kind: 2, N: 1},
		{Kind: 3}, {Kind: 3, S: "\x00"}, {Kind: 3, S: "\x00\x01"}, {Kind: 3, S: "\x00\xff"}, {Kind: 3, S: "\x01"}, {Kind: 3, S: "a"}, {Kind: 3, S: "a\x00"}, {Kind: 3, S: "ab"}, {Kind: 3, S: "\xff"},
	}
}

// risingRows answers all rows of up to three of few, in their order: by the rule itself, each row ahead of those that go on from it.
func risingRows() [][]api.Value {
	var l [][]api.Value
	var grow func(row []api.Value)
	grow = func(row []api.Value) {
		l = append(l, slices.Clone(row))
		if len(row) == 3 {
			return
		}
		for _, v := range few() {
			grow(append(slices.Clone(row), v))
		}
	}
	grow(nil)
	return l
}

// wrongForms answers values of a kind that aren't right.
func wrongForms() []api.Value {
	long := strings.Repeat("x", api.MaxText+1)
	return []api.Value{
		{N: 1}, {N: -1}, {N: math.MinInt64}, {S: "x"}, {S: "\x00"}, {N: 1, S: "x"}, {S: long},
		{Kind: 1, S: "x"}, {Kind: 1, N: 5, S: "\x00"}, {Kind: 1, N: math.MaxInt64, S: long},
		{Kind: 2, N: 2}, {Kind: 2, N: -1}, {Kind: 2, N: 256}, {Kind: 2, N: 1 << 32}, {Kind: 2, N: math.MaxInt64}, {Kind: 2, N: math.MinInt64}, {Kind: 2, S: "x"}, {Kind: 2, N: 1, S: "true"}, {Kind: 2, N: 2, S: "x"},
		{Kind: 3, N: 1}, {Kind: 3, N: -1, S: "x"}, {Kind: 3, N: 1, S: "x"}, {Kind: 3, S: long}, {Kind: 3, S: long + long}, {Kind: 3, N: 7, S: long}, {Kind: 3, S: strings.Repeat("\u00e4", api.MaxText/2) + "x"},
	}
}

// noKinds answers values of no kind.
func noKinds() []api.Value {
	var l []api.Value
	for _, k := range []int{math.MinInt, math.MinInt + 3, -256, -3, -1, 4, 5, 255, 256, 257, 259, 1 << 32, 1<<32 + 1, 1<<32 + 3, math.MaxInt} {
		l = append(l, api.Value{Kind: k}, api.Value{Kind: k, N: 1}, api.Value{Kind: k, S: "x"}, api.Value{Kind: k, N: 2, S: strings.Repeat("x", api.MaxText+1)})
	}
	return l
}

func bytesOf(t *testing.T, digits string) string {
	t.Helper()
	b, err := hex.DecodeString(strings.ReplaceAll(digits, " ", ""))
	if err != nil {
		t.Fatal(err)
	}
	return string(b)
}

// plainKey answers what the chapter's words make of a right row.
func plainKey(l []api.Value) string {
	s := ""
	for _, v := range l {
		switch v.Kind {
		case 0:
			s += "\x01"
		case 1:
			s += "\x02"
			n := uint64(v.N) + 1<<63
			for i := range 8 {
				s += string([]byte{byte(n >> (56 - 8*i) & 255)})
			}
		case 2:
			s += "\x03" + string([]byte{byte(v.N)})
		case 3:
			s += "\x04"
			for i := range len(v.S) {
				s += v.S[i : i+1]
				if v.S[i] == 0 {
					s += "\xff"
				}
			}
			s += "\x00\x00"
		}
	}
	return s
}

// P3.1
func TestMakers(t *testing.T) {
	for _, n := range []int64{math.MinInt64, -256, -1, 0, 1, 2, 255, math.MaxInt64} {
		if v := Int(n); v != (api.Value{Kind: 1, N: n}) {
			t.Errorf("P3.1: Int(%d): %#v", n, v)
		}
	}
	if v := Bool(false); v != (api.Value{Kind: 2}) {
		t.Errorf("P3.1: Bool(false): %#v", v)
	}
	if v := Bool(true); v != (api.Value{Kind: 2, N: 1}) {
		t.Errorf("P3.1: Bool(true): %#v", v)
	}
	for _, s := range []string{"", "x", "\x00", "\xff\xfe", "\u20ac", strings.Repeat("x", api.MaxText), strings.Repeat("x", api.MaxText+1)} {
		if v := Text(s); v != (api.Value{Kind: 3, S: s}) {
			t.Errorf("P3.1: Text(%q): %#v", s, v)
		}
	}
}

// P3.1
func TestCheck(t *testing.T) {
	for _, v := range rising() {
		if e := Check(v); e != api.OK {
			t.Errorf("P3.1: Check(%#v): %d", v, e)
		}
	}
	for _, v := range noKinds() {
		if e := Check(v); e != api.ErrValKind {
			t.Errorf("P3.1: Check(%#v): %d", v, e)
		}
	}
	for _, v := range wrongForms() {
		if e := Check(v); e != api.ErrValForm {
			t.Errorf("P3.1: Check(%#v): %d", v, e)
		}
	}
}

// P3.1: a text's bytes are counted, its letters never.
func TestTextsAreBytes(t *testing.T) {
	for n := range api.MaxText + 3 {
		for _, letter := range []string{"x", "\x00", "\xff", "\u00e4", "\u20ac", "\U0001f600"} {
			s := strings.Repeat(letter, n)
			want := api.OK
			if n*len(letter) > 200 {
				want = api.ErrValForm
			}
			if e := Check(Text(s)); e != want {
				t.Fatalf("P3.1: Check of a text of %d bytes: %d, not %d", len(s), e, want)
			}
		}
	}
}

// P3.1
func TestRow(t *testing.T) {
	if !Row(nil) || !Row([]api.Value{}) {
		t.Error("P3.1: a row of nothing isn't right")
	}
	for n := range 40 {
		for _, v := range few() {
			if Row(slices.Repeat([]api.Value{v}, n)) != (n <= 12) {
				t.Errorf("P3.1: Row of %d of %#v", n, v)
			}
		}
	}
	for _, row := range risingRows() {
		if !Row(row) {
			t.Fatalf("P3.1: Row(%#v)", row)
		}
	}
}

// P3.1, P3.3: one wrong value, wherever it stands, makes a row wrong; of a kind that is none too it has no key.
func TestWrongRows(t *testing.T) {
	for _, wrong := range slices.Concat(noKinds(), wrongForms()) {
		for n := 1; n <= 13; n++ {
			for at := range n {
				l := slices.Repeat([]api.Value{Int(4)}, n)
				l[at] = wrong
				if Row(l) {
					t.Fatalf("P3.1: Row with %#v at %d of %d", wrong, at, n)
				}
				if s, e := Key(l); s != "" || e != api.ErrValForm {
					t.Fatalf("P3.3: Key with %#v at %d of %d: %q, %d", wrong, at, n, s, e)
				}
			}
		}
	}
}

// P3.2
func TestCmp(t *testing.T) {
	l := rising()
	for i, a := range l {
		for j, b := range l {
			if c := Cmp(a, b); c != cmp.Compare(i, j) {
				t.Errorf("P3.2: Cmp(%#v, %#v): %d", a, b, c)
			}
		}
	}
}

// P3.2: of a text the bytes count, not the letters, and of others too, as they stand.
func TestCmpOfWrongValues(t *testing.T) {
	long := strings.Repeat("x", api.MaxText+1)
	l := []api.Value{
		{Kind: math.MinInt, N: 9, S: "z"}, {Kind: -1 << 32}, {Kind: -1, N: math.MinInt64}, {Kind: -1}, {Kind: -1, S: "a"}, {Kind: -1, N: math.MaxInt64, S: ""},
		{N: math.MinInt64, S: "z"}, {N: -1}, {}, {S: "a"}, {S: "b"}, {N: 1}, {N: 1, S: "a"},
		{Kind: 1, N: -5, S: "z"}, {Kind: 1}, {Kind: 1, S: "\x00"}, {Kind: 1, N: 1},
		{Kind: 2, N: -1, S: "z"}, {Kind: 2}, {Kind: 2, S: "a"}, {Kind: 2, N: 1}, {Kind: 2, N: 2}, {Kind: 2, N: math.MaxInt64},
		{Kind: 3, N: -1, S: "z"}, {Kind: 3, S: "a"}, {Kind: 3, S: long}, {Kind: 3, S: long + "x"}, {Kind: 3, S: "y"}, {Kind: 3, N: 1, S: ""}, {Kind: 3, N: 1, S: "a"},
		{Kind: 4}, {Kind: 5, N: math.MinInt64}, {Kind: 1<<32 + 1}, {Kind: math.MaxInt, N: -9}, {Kind: math.MaxInt},
	}
	for i, a := range l {
		for j, b := range l {
			if c := Cmp(a, b); c != cmp.Compare(i, j) {
				t.Errorf("P3.2: Cmp(%#v, %#v): %d", a, b, c)
			}
			if c := CmpRow([]api.Value{a}, []api.Value{b}); c != cmp.Compare(i, j) {
				t.Errorf("P3.2: CmpRow(%#v, %#v): %d", a, b, c)
			}
			if c := CmpRow([]api.Value{a, b}, []api.Value{a, a, b}); b != a && c != cmp.Compare(j, i) || b == a && c != -1 {
				t.Errorf("P3.2: CmpRow of %#v, %#v and %#v, %#v, %#v: %d", a, b, a, a, b, c)
			}
		}
	}
}

// P3.2
func TestCmpRow(t *testing.T) {
	l := risingRows()
	for i := 0; i < len(l); i += 1 + i%3 {
		for j := 0; j < len(l); j += 1 + (i+j)%5 {
			if c := CmpRow(l[i], l[j]); c != cmp.Compare(i, j) {
				t.Fatalf("P3.2: CmpRow(%#v, %#v): %d", l[i], l[j], c)
			}
		}
	}
	if CmpRow(nil, []api.Value{}) != 0 || CmpRow([]api.Value{}, nil) != 0 || CmpRow(nil, nil) != 0 {
		t.Error("P3.2, R3: CmpRow of rows of nothing")
	}
	if CmpRow(nil, []api.Value{{}}) != -1 || CmpRow([]api.Value{{}}, nil) != 1 {
		t.Error("P3.2: CmpRow of nothing and a row")
	}
}

// P3.2: rows longer than a right one are told by their values and ends too.
func TestCmpLongRows(t *testing.T) {
	a := slices.Repeat([]api.Value{Text("x")}, 50)
	b := slices.Clone(a)
	if CmpRow(a, b) != 0 || CmpRow(a[:49], b) != -1 || CmpRow(a, b[:13]) != 1 {
		t.Error("P3.2: CmpRow of long rows that begin so")
	}
	b[49] = Bool(true)
	if CmpRow(a, b) != 1 || CmpRow(b, a) != -1 {
		t.Error("P3.2: CmpRow of long rows whose last values differ")
	}
}

// P3.3
func TestKeysByBytes(t *testing.T) {
	for _, c := range []struct {
		row []api.Value
		key string
	}{
		{nil, ""},
		{[]api.Value{}, ""},
		{[]api.Value{{}}, "01"},
		{[]api.Value{{}, {}, {}}, "01 01 01"},
		{[]api.Value{Int(-1)}, "02 7f ff ff ff ff ff ff ff"},
		{[]api.Value{Int(0)}, "02 80 00 00 00 00 00 00 00"},
		{[]api.Value{Int(1)}, "02 80 00 00 00 00 00 00 01"},
		{[]api.Value{Int(0x0102030405060708)}, "02 81 02 03 04 05 06 07 08"},
		{[]api.Value{Int(math.MinInt64)}, "02 00 00 00 00 00 00 00 00"},
		{[]api.Value{Int(math.MaxInt64)}, "02 ff ff ff ff ff ff ff ff"},
		{[]api.Value{Bool(false)}, "03 00"},
		{[]api.Value{Bool(true)}, "03 01"},
		{[]api.Value{Text("")}, "04 00 00"},
		{[]api.Value{Text("a")}, "04 61 00 00"},
		{[]api.Value{Text("\x00")}, "04 00 ff 00 00"},
		{[]api.Value{Text("\x00\x00")}, "04 00 ff 00 ff 00 00"},
		{[]api.Value{Text("\xff")}, "04 ff 00 00"},
		{[]api.Value{Text("\x00\xff")}, "04 00 ff ff 00 00"},
		{[]api.Value{Text("a\x00b")}, "04 61 00 ff 62 00 00"},
		{[]api.Value{Text("\u00e4\x80")}, "04 c3 a4 80 00 00"},
		{[]api.Value{Text("a"), {}, Bool(true), Int(-256), Text("")}, "04 61 00 00 01 03 01 02 7f ff ff ff ff ff ff 00 04 00 00"},
	} {
		want := bytesOf(t, c.key)
		if s, e := Key(c.row); s != want || e != api.OK {
			t.Errorf("P3.3: Key(%#v): %x, %d, not %s", c.row, s, e, c.key)
		}
		if l, e := Unkey(want); !slices.Equal(l, c.row) || e != api.OK {
			t.Errorf("P3.3: Unkey(%s): %#v, %d, not %#v", c.key, l, e, c.row)
		}
	}
}

// P3.3, P3.5: also at the greatest lengths of texts and rows.
func TestKeyAndUnkey(t *testing.T) {
	rows := risingRows()
	for _, v := range rising() {
		rows = append(rows, []api.Value{v}, []api.Value{v, v}, slices.Repeat([]api.Value{v}, api.MaxCols))
	}
	for i := range len(rising()) - api.MaxCols + 1 {
		rows = append(rows, rising()[i:i+api.MaxCols])
	}
	for _, row := range rows {
		s, e := Key(row)
		if s != plainKey(row) || e != api.OK {
			t.Fatalf("P3.3: Key(%#v): %x, %d", row, s, e)
		}
		if l, e := Unkey(s); !slices.Equal(l, row) || e != api.OK {
			t.Fatalf("P3.5: Unkey(%x): %#v, %d, not %#v", s, l, e, row)
		}
	}
}

// P3.3
func TestKeyOfTooMany(t *testing.T) {
	for _, v := range few() {
		for n := api.MaxCols + 1; n < 2*api.MaxCols+2; n++ {
			l := slices.Repeat([]api.Value{v}, n)
			if s, e := Key(l); s != "" || e != api.ErrValForm {
				t.Errorf("P3.3: Key of %d of %#v: %q, %d", n, v, s, e)
			}
			if l, e := Unkey(plainKey(l)); len(l) != 0 || e != api.ErrValForm {
				t.Errorf("P3.3: Unkey of %d of %#v: %#v, %d", n, v, l, e)
			}
		}
	}
}

// P3.3: texts that no right row has, of bytes that stand for themselves and of such as take two.
func TestUnkeyOfLongTexts(t *testing.T) {
	for _, letter := range []string{"x", "\x00", "\xff", "\x00\xff", "a\x00"} {
		for n := range 2 * api.MaxText {
			row := []api.Value{{}, Text(strings.Repeat(letter, n)), {}}
			right := n*len(letter) <= api.MaxText
			l, e := Unkey(plainKey(row))
			if right && (e != api.OK || !slices.Equal(l, row)) || !right && (e != api.ErrValForm || len(l) != 0) {
				t.Fatalf("P3.3: Unkey of a text of %d of %q: %d", n, letter, e)
			}
		}
	}
	for _, s := range []string{"x", "\x00\xff", "\x00", "\xff", "\x01"} {
		long := strings.Repeat(s, 1<<20)
		if l, e := Unkey("\x04" + long); len(l) != 0 || e != api.ErrValForm {
			t.Errorf("P3.3: Unkey of a long text without an end: %d", e)
		}
		if l, e := Unkey(long); len(l) != 0 || e != api.ErrValForm {
			t.Errorf("P3.3: Unkey of many bytes: %d", e)
		}
	}
}

// P3.3
func TestUnkeyOfNoKey(t *testing.T) {
	for _, digits := range []string{
		"00", "05", "06", "61", "80", "fe", "ff", "00 01", "01 00", "01 05", "01 ff",
		"02", "02 00", "02 80 00 00 00 00 00 00", "02 80 00 00 00 00 00 00 00 00", "01 02 7f ff ff ff ff ff ff",
		"03", "03 02", "03 03", "03 80", "03 ff", "03 00 00", "03 01 03", "01 03 02",
		"04", "04 00", "04 61", "04 61 00", "04 00 ff", "04 00 ff 00", "04 61 00 01", "04 61 00 01 00 00", "04 00 fe 00 00", "04 00 61 00 00", "04 61 00 00 00", "04 00 00 00 00", "04 ff", "04 ff 00", "04 61 00 00 04",
	} {
		if l, e := Unkey(bytesOf(t, digits)); len(l) != 0 || e != api.ErrValForm {
			t.Errorf("P3.3: Unkey(%s): %#v, %d", digits, l, e)
		}
	}
}

// letters stand for bytes, so that a pattern over them tells which bytes are keys.
var letters = map[byte]byte{'0': 0, '1': 1, '2': 2, '3': 3, '4': 4, 'a': 'a', 'f': 0xff}

// P3.3: all texts of few unlike bytes, held against a pattern of the keys.
func TestUnkeyOfAllShortTexts(t *testing.T) {
	keys := regexp.MustCompile(`^(1|2.{8}|3[01]|4([^0]|0f)*00)*$`)
	var grow func(s string, more int)
	grow = func(s string, more int) {
		raw := []byte(s)
		for i, c := range raw {
			raw[i] = letters[c]
		}
		l, e := Unkey(string(raw))
		switch {
		case keys.MatchString(s) != (e == api.OK):
			t.Fatalf("P3.3: Unkey(%x): %#v, %d", raw, l, e)
		case e == api.OK && (!Row(l) || plainKey(l) != string(raw)):
			t.Fatalf("P3.5: Unkey(%x) is %#v, of another key", raw, l)
		case e != api.OK && (e != api.ErrValForm || len(l) != 0):
			t.Fatalf("P3.3: Unkey(%x): %#v, %d", raw, l, e)
		}
		if more == 0 {
			return
		}
		for _, c := range "01234af" {
			grow(s+string(c), more-1)
		}
	}
	grow("", 6)
	for _, front := range []string{"2", "2001234a", "1120000000", "4a0f", "40f0f00", "4a00200fffaf0"} {
		grow(front, 4)
	}
}

// P3.5: Key of what Unkey tells are the bytes, also of keys in which a byte was turned, left out or put in.
func TestUnkeyOfSpoiledKeys(t *testing.T) {
	hold := func(s string) {
		l, e := Unkey(s)
		if e != api.OK {
			if e != api.ErrValForm || len(l) != 0 {
				t.Fatalf("P3.3: Unkey(%x): %#v, %d", s, l, e)
			}
			return
		}
		if back, e := Key(l); back != s || e != api.OK {
			t.Fatalf("P3.5: Unkey(%x): %#v, whose Key is %x, %d", s, l, back, e)
		}
	}
	for i, row := range risingRows() {
		s := plainKey(row)
		for at := range len(s) {
			for _, c := range []byte{0, 1, 2, 3, 4, 5, 'a', 0x80, 0xfe, 0xff, byte(i)} {
				hold(s[:at] + string([]byte{c}) + s[at+1:])
				hold(s[:at] + string([]byte{c}) + s[at:])
			}
			hold(s[:at] + s[at+1:])
		}
	}
}

// P3.3: a key that is cut off is one of fewer values, where the cut parts two, and none elsewhere.
func TestUnkeyOfCutKeys(t *testing.T) {
	for _, row := range [][]api.Value{few(), rising()} {
		row = row[max(0, len(row)-api.MaxCols):]
		s := plainKey(row)
		whole := make(map[int]int)
		for n := range len(row) + 1 {
			whole[len(plainKey(row[:n]))] = n
		}
		for at := range len(s) + 1 {
			l, e := Unkey(s[:at])
			n, ok := whole[at]
			if ok && (e != api.OK || !slices.Equal(l, row[:n])) || !ok && (e != api.ErrValForm || len(l) != 0) {
				t.Fatalf("P3.3: Unkey of %d of %d bytes: %#v, %d", at, len(s), l, e)
			}
		}
	}
}

// P3.5
func TestKeysStandAsRows(t *testing.T) {
	var keys []string
	for _, row := range risingRows() {
		s, e := Key(row)
		if e != api.OK {
			t.Fatalf("P3.3: Key(%#v): %d", row, e)
		}
		if n := len(keys); n > 0 && keys[n-1] >= s {
			t.Fatalf("P3.5: the key %x of %#v doesn't stand behind %x", s, row, keys[n-1])
		}
		keys = append(keys, s)
	}
	l := rising()
	for i, a := range l {
		for j, b := range l {
			for _, rest := range few() {
				x, _ := Key([]api.Value{a, rest})
				y, _ := Key([]api.Value{b, l[(i+j)%len(l)]})
				if strings.Compare(x, y) != CmpRow([]api.Value{a, rest}, []api.Value{b, l[(i+j)%len(l)]}) {
					t.Fatalf("P3.5: the keys %x and %x stand otherwise than their rows", x, y)
				}
			}
		}
	}
}

// P3.4: right or not, as many as there are.
func TestAll(t *testing.T) {
	for _, l := range [][]api.Value{nil, {}, {{}}, {Int(3)}, {{Kind: 9, N: 2, S: "x"}, Int(-1), {}}, few(), rising(), noKinds(), wrongForms()} {
		var seen []api.Value
		for i, v := range All(l) {
			if i != len(seen) {
				t.Fatalf("P3.4: the place %d, not %d", i, len(seen))
			}
			seen = append(seen, v)
		}
		if !slices.Equal(seen, l) {
			t.Errorf("P3.4: All(%#v): %#v", l, seen)
		}
	}
}

// P3.4: values behind the list's end are none of it.
func TestAllWithoutSpareRoom(t *testing.T) {
	l := few()
	n := 0
	for i, v := range All(l[2:5]) {
		if v != l[2+i] {
			t.Errorf("P3.4: %#v at %d", v, i)
		}
		n++
	}
	if n != 3 {
		t.Errorf("P3.4: %d values of 3", n)
	}
}

// P3.4: as it was at the call, whatever is done with the list ahead of the walk, or within it.
func TestAllAtTheCall(t *testing.T) {
	l := few()
	walk := All(l)
	for i := range l {
		l[i] = Text("changed")
	}
	for range 3 {
		var seen []api.Value
		for i, v := range walk {
			l[len(l)-1-i] = Int(int64(i))
			seen = append(seen, v)
		}
		if !slices.Equal(seen, few()) {
			t.Fatalf("P3.4: %#v, not %#v", seen, few())
		}
	}
}

// P3.4: a walk that is broken off asks no further, and begins anew the next time; one within another goes apart.
func TestAllBrokenOff(t *testing.T) {
	l := few()
	walk := All(l)
	for stop := range l {
		n := 0
		walk(func(i int, v api.Value) bool {
			if i != n || v != l[i] {
				t.Fatalf("P3.4: %#v at %d, not %#v at %d", v, i, l[n], n)
			}
			n++
			return i < stop
		})
		if n != stop+1 {
			t.Fatalf("P3.4: broken off at %d, it went on to %d", stop, n)
		}
	}
	pairs := 0
	for i := range walk {
		for j := range walk {
			if j > i {
				break
			}
			pairs++
		}
	}
	if pairs != len(l)*(len(l)+1)/2 {
		t.Errorf("P3.4: %d pairs", pairs)
	}
}

// R4: what is handed in stays, spare room behind its end too, and what is told is the caller's.
func TestNothingIsShared(t *testing.T) {
	l := few()
	row := l[:5]
	s, _ := Key(row)
	Row(row)
	CmpRow(row, l[:7])
	for range All(row) {
	}
	if !slices.Equal(l, few()) {
		t.Fatalf("R4: the list is %#v", l)
	}
	a, _ := Unkey(s)
	b, _ := Unkey(s)
	for i := range a {
		a[i] = Text("changed")
	}
	a = append(a, Int(1))
	if !slices.Equal(b, row) || s != plainKey(row) {
		t.Errorf("R4: what was told is shared: %#v", b)
	}
	if c, e := Unkey(s); !slices.Equal(c, row) || e != api.OK {
		t.Errorf("R6: Unkey: %#v, %d", c, e)
	}
	row[0] = Text("changed")
	if again, _ := Key(few()[:5]); again != s {
		t.Error("R6: the key of the same row is another one")
	}
}
