package decode

import (
	"bytes"
	"math"
	"math/big"
	"regexp"
	"slices"
	"strings"
	"testing"

	"headgate/api"
)

// plainFields parts a record by the chapter's words: byte by byte, with what a backslash takes.
func plainFields(s string) []string {
	l, taken := []string{""}, false
	for i := range len(s) {
		if s[i] == ',' && !taken {
			l = append(l, "")
			continue
		}
		taken = s[i] == '\\' && !taken
		l[len(l)-1] += s[i : i+1]
	}
	return l
}

// The forms of fields, as the chapter's table tells them.
var (
	ofInt  = regexp.MustCompile(`^(0|-?[1-9][0-9]*)$`)
	ofText = regexp.MustCompile(`^(?s:[^\\]|\\[,\\])*$`)
	taken  = regexp.MustCompile(`\\([,\\])`)
)

// plainSays answers what a field says by the chapter's words, and whether it says something. It is asked of bytes below
// 128 alone, where letters are bytes.
func plainSays(s string, kind int) (api.Value, bool) {
	switch {
	case s == "\\N":
		return api.Value{}, true
	case kind == 1 && ofInt.MatchString(s):
		n, _ := new(big.Int).SetString(s, 10)
		if n.IsInt64() {
			return api.Value{Kind: 1, N: n.Int64()}, true
		}
	case kind == 2 && s == "true":
		return api.Value{Kind: 2, N: 1}, true
	case kind == 2 && s == "false":
		return api.Value{Kind: 2}, true
	case kind == 3 && ofText.MatchString(s):
		s = taken.ReplaceAllString(s, "$1")
		if len(s) <= 200 {
			return api.Value{Kind: 3, S: s}, true
		}
	}
	return api.Value{}, false
}

// plainRow answers by the chapter's words the row of a record, by right columns.
func plainRow(cols []api.Column, s string) ([]api.Value, api.Errno) {
	fields := plainFields(s)
	if len(fields) != len(cols) {
		return nil, api.ErrCount
	}
	var row []api.Value
	for i, field := range fields {
		v, ok := plainSays(field, cols[i].Kind)
		if !ok {
			return nil, api.ErrField
		}
		row = append(row, v)
	}
	return row, api.OK
}

// hold holds Row of a record against the chapter's words, and Record against it.
func hold(t *testing.T, cols []api.Column, s string) {
	t.Helper()
	row, e := Row(cols, []byte(s))
	want, f := plainRow(cols, s)
	if e != f || !slices.Equal(row, want) {
		t.Fatalf("P12.2: Row(%v, %q): %v, %d, not %v, %d", cols, s, row, e, want, f)
	}
	if e != api.OK {
		return
	}
	if b, e := Record(cols, row); e != api.OK || string(b) != s {
		t.Fatalf("P12.4: Row(%v, %q) is %v, whose Record is %q, %d", cols, s, row, b, e)
	}
}

// eachOf hands on all texts of up to n of the pieces.
func eachOf(n int, pieces []string, use func(string)) {
	var grow func(s string, more int)
	grow = func(s string, more int) {
		use(s)
		if more == 0 {
			return
		}
		for _, piece := range pieces {
			grow(s+piece, more-1)
		}
	}
	grow("", n)
}

func column(kind int) []api.Column { return []api.Column{{Name: "a", Kind: kind}} }

// P12.2
func TestSplitByHand(t *testing.T) {
	for s, want := range map[string][]string{
		"":              {""},
		"a":             {"a"},
		",":             {"", ""},
		",,":            {"", "", ""},
		"a,b":           {"a", "b"},
		"a,":            {"a", ""},
		",a":            {"", "a"},
		`\`:             {`\`},
		`\,`:            {`\,`},
		`\,,`:           {`\,`, ""},
		`\\,`:           {`\\`, ""},
		`\\\,`:          {`\\\,`},
		`\\,\`:          {`\\`, `\`},
		`a\,b,,c`:       {`a\,b`, "", "c"},
		`\a,b`:          {`\a`, "b"},
		`\N,\N`:         {`\N`, `\N`},
		`,\`:            {"", `\`},
		"a\x00,\xff,b":  {"a\x00", "\xff", "b"},
		"\\\xff,x":      {"\\\xff", "x"},
		"\u00e4,\u20ac": {"\u00e4", "\u20ac"},
		" a , b ":       {" a ", " b "},
		"\"a,b\"":       {"\"a", "b\""},
	} {
		if l := Split(s); !slices.Equal(l, want) {
			t.Errorf("P12.2: Split(%q): %q, not %q", s, l, want)
		}
	}
}

type word string

type line []byte

// P12.2: of all types of texts and bytes alike; all texts of few unlike bytes.
func TestSplit(t *testing.T) {
	whole := regexp.MustCompile(`^([^,\\]|\\.)*$`)
	last := regexp.MustCompile(`^([^,\\]|\\.)*\\?$`)
	eachOf(9, []string{",", "\\", "a"}, func(s string) {
		l := Split(s)
		if !slices.Equal(l, plainFields(s)) || strings.Join(l, ",") != s || len(l) < 1 {
			t.Fatalf("P12.2: Split(%q): %q", s, l)
		}
		for i, field := range l {
			if i < len(l)-1 && !whole.MatchString(field) || !last.MatchString(field) {
				t.Fatalf("P12.2: Split(%q) has %q", s, field)
			}
		}
		b, words, lines := Split([]byte(s)), Split(word(s)), Split(line(s))
		if len(b) != len(l) || len(words) != len(l) || len(lines) != len(l) {
			t.Fatalf("P12.2: Split of %q as another type: %q, %q, %q", s, b, words, lines)
		}
		for i, field := range l {
			if string(b[i]) != field || string(words[i]) != field || string(lines[i]) != field {
				t.Fatalf("P12.2: Split of %q as another type: %q, %q, %q", s, b, words, lines)
			}
		}
	})
	if l := Split([]byte(nil)); len(l) != 1 || len(l[0]) != 0 {
		t.Errorf("P12.2: Split(nil): %q", l)
	}
	if l := Split(line(nil)); len(l) != 1 || len(l[0]) != 0 {
		t.Errorf("P12.2: Split(nil): %q", l)
	}
}

// P12.2: a backslash takes the next byte with it, whatever it is; no other byte parts fields.
func TestSplitByBytes(t *testing.T) {
	for c := range 256 {
		s := string([]byte{byte(c)})
		want := []string{"a" + s + "b"}
		if s == "," {
			want = []string{"a", "b"}
		}
		if l := Split("a" + s + "b"); !slices.Equal(l, want) {
			t.Errorf("P12.2: Split of %q within a field: %q", s, l)
		}
		if l := Split("\\" + s + ",x"); !slices.Equal(l, []string{"\\" + s, "x"}) {
			t.Errorf("P12.2: Split of %q behind a backslash: %q", s, l)
		}
	}
}

func TestSplitLong(t *testing.T) {
	for _, c := range []struct {
		s string
		n int
	}{
		{strings.Repeat(",", 1<<20), 1<<20 + 1},
		{strings.Repeat("\\,", 1<<20), 1},
		{strings.Repeat("\\", 1<<20), 1},
		{strings.Repeat("\\\\,", 1<<20), 1<<20 + 1},
		{strings.Repeat("a", 1<<22), 1},
		{strings.Repeat("a,b\\,", 1<<18), 1<<18 + 1},
	} {
		if l := Split(c.s); len(l) != c.n || strings.Join(l, ",") != c.s {
			t.Errorf("P12.2: Split of %d bytes that begin with %q: %d fields", len(c.s), c.s[:4], len(l))
		}
		if l := Split([]byte(c.s)); len(l) != c.n || string(bytes.Join(l, []byte(","))) != c.s {
			t.Errorf("P12.2: Split of %d bytes that begin with %q: %d fields", len(c.s), c.s[:4], len(l))
		}
	}
}

// R4: fields share no memory with the record, nor with one another.
func TestFieldsAreNew(t *testing.T) {
	s := `ab,c\,d,,\\,e`
	b := []byte(s + "behind")
	want := plainFields(s)
	l := Split(b[:len(s)])
	clear(b)
	for i := range l {
		if string(l[i]) != want[i] {
			t.Fatalf("R4: the field %q became %q", want[i], l[i])
		}
		own := l[i]
		_ = append(own, "more than there is room for"...)
		_ = append(own, 'x')
		clear(own[:cap(own)])
	}
	b = []byte(s + "behind")
	for _, field := range Split(b[:len(s)]) {
		_ = append(field, "more"...)
		clear(field[:cap(field)])
	}
	if string(b) != s+"behind" {
		t.Errorf("R4: the record became %q", b)
	}
}

// P12.2: all short texts of what numbers are made of, and of what may be taken for it.
func TestIntFields(t *testing.T) {
	eachOf(5, []string{"0", "1", "9", "-", "+", "_", "\\", "N", " ", "x", ".", "e"}, func(s string) {
		hold(t, column(1), s)
	})
	for _, s := range []string{
		"", "-", "--1", "-0", "00", "-00", "01", "-01", "+1", "+0", "1 ", " 1", "1\n", "\t1", "0x1", "0b1", "0o7", "1_000", "1e3", "1.0", "1,", "\\1", "1\\", "1\\,", "\\-1", "\\N1", "\\n", "N", "null", "true", "inf", "\x00", "1\x00", "-\\N",
		"9223372036854775808", "-9223372036854775809", "18446744073709551615", "18446744073709551616", "18446744073709551617", "-18446744073709551615", "10000000000000000000", "99999999999999999999", "09223372036854775807",
		strings.Repeat("9", 1000), "1" + strings.Repeat("0", 1000), strings.Repeat("0", 1000) + "1", strings.Repeat("0", 1000), "-" + strings.Repeat("1", 1000), strings.Repeat("-", 1000),
	} {
		hold(t, column(1), s)
		if row, e := Row(column(1), []byte(s)); e == api.OK || len(row) != 0 {
			t.Errorf("P12.2: Row(%q) of an int: %v, %d", s, row, e)
		}
	}
	for _, s := range []string{"\uff11", "1\u0660", "\u22121", "1\xff", "\xff", "\u00b2"} {
		if row, e := Row(column(1), []byte(s)); e != api.ErrField || len(row) != 0 {
			t.Errorf("P12.2: Row(%q) of an int: %v, %d", s, row, e)
		}
	}
}

// P12.2, P12.3: ints near powers of 2 and 10, and near the ends, told as unbounded numbers tell them; those behind the ends.
func TestIntsByHand(t *testing.T) {
	var near []*big.Int
	for _, base := range []int64{2, 10} {
		for k := range int64(70) {
			near = append(near, new(big.Int).Exp(big.NewInt(base), big.NewInt(k), nil))
		}
	}
	for _, n := range near {
		for d := int64(-2); d <= 2; d++ {
			for _, sign := range []int64{-1, 1} {
				m := new(big.Int).Mul(new(big.Int).Add(n, big.NewInt(d)), big.NewInt(sign))
				s := m.String()
				hold(t, column(1), s)
				row, e := Row(column(1), []byte(s))
				if !m.IsInt64() && e != api.ErrField || m.IsInt64() && (e != api.OK || row[0] != (api.Value{Kind: 1, N: m.Int64()})) {
					t.Fatalf("P12.2: Row(%s): %v, %d", s, row, e)
				}
				for _, other := range []string{"0" + s, "+" + s, s + " ", "-" + s, s + ".", "\\" + s} {
					hold(t, column(1), other)
				}
			}
		}
	}
}

// P12.2
func TestBoolFields(t *testing.T) {
	for _, s := range []string{"", "1", "0", "t", "f", "T", "F", "True", "TRUE", "False", "FALSE", "true ", " true", "tru", "truee", "fals", "falsee", "truefalse", "true\\", "\\true", "true\\,", "tr\\ue", "yes", "no", "null", "N", "\\n", "\\N\\N", "\\Ntrue", "true\x00", "\x00"} {
		if row, e := Row(column(2), []byte(s)); e != api.ErrField || len(row) != 0 {
			t.Errorf("P12.2: Row(%q) of a bool: %v, %d", s, row, e)
		}
	}
	eachOf(6, []string{"true", "false", "t", "\\", "N", ",", ""}, func(s string) { hold(t, column(2), s) })
}

// P12.2, P12.4: all short texts of what is told apart in a text.
func TestTextFields(t *testing.T) {
	eachOf(8, []string{"\\", "N", ",", "a"}, func(s string) { hold(t, column(3), s) })
	two := []api.Column{{Name: "a", Kind: 3}, {Name: "b", Kind: 3}}
	eachOf(8, []string{"\\", "N", ",", "\n"}, func(s string) { hold(t, two, s) })
}

// P12.2, P12.3: each byte within a text, and behind a backslash.
func TestTextFieldsByBytes(t *testing.T) {
	for c := range 256 {
		s := string([]byte{byte(c)})
		row, e := Row(column(3), []byte("a\\"+s+"b"))
		if good := s == "," || s == "\\"; good && (e != api.OK || row[0].S != "a"+s+"b") || !good && (e != api.ErrField || len(row) != 0) {
			t.Errorf("P12.2: Row with %q behind a backslash: %v, %d", s, row, e)
		}
		if s == "," || s == "\\" {
			continue
		}
		row, e = Row(column(3), []byte("a"+s+"b"))
		if e != api.OK || !slices.Equal(row, []api.Value{{Kind: 3, S: "a" + s + "b"}}) {
			t.Errorf("P12.2: Row with %q: %v, %d", s, row, e)
		}
		if b, e := Record(column(3), row); e != api.OK || string(b) != "a"+s+"b" {
			t.Errorf("P12.3: Record with %q: %q, %d", s, b, e)
		}
	}
}

// P12.2: a text's bytes are counted, without the backslashes that stand ahead of others, its letters never.
func TestLongTexts(t *testing.T) {
	for _, piece := range []string{"x", "\\,", "\\\\", "\x00", "\xff", "\u00e4", "\u20ac", "x\\,", "\\\\xy"} {
		says := strings.NewReplacer("\\,", ",", "\\\\", "\\").Replace(piece)
		for n := range 230 {
			for _, more := range []string{"", "y", "\\,"} {
				field, want := strings.Repeat(piece, n)+more, strings.Repeat(says, n)+strings.TrimPrefix(more, "\\")
				row, e := Row(column(3), []byte(field))
				good := len(want) <= 200
				if good && (e != api.OK || !slices.Equal(row, []api.Value{{Kind: 3, S: want}})) || !good && (e != api.ErrField || len(row) != 0) {
					t.Fatalf("P12.2: Row of a text of %d bytes, %q: %d", len(want), field, e)
				}
				if !good {
					continue
				}
				if b, e := Record(column(3), row); e != api.OK || string(b) != field {
					t.Fatalf("P12.4: Record of a text of %d bytes: %q, %d", len(want), b, e)
				}
			}
		}
	}
	for _, s := range []string{"x", "\\,", "\\\\", "0"} {
		if row, e := Row(column(3), []byte(strings.Repeat(s, 1<<20))); e != api.ErrField || len(row) != 0 {
			t.Errorf("P12.2: Row of a long text of %q: %d", s, e)
		}
	}
}

// few answers some values of each kind, right ones, null among them.
func few(kind int) []api.Value {
	l := []api.Value{{}}
	switch kind {
	case 1:
		for _, n := range []int64{math.MinInt64, -10, -1, 0, 1, 7, 100, math.MaxInt64} {
			l = append(l, api.Value{Kind: 1, N: n})
		}
	case 2:
		l = append(l, api.Value{Kind: 2}, api.Value{Kind: 2, N: 1})
	case 3:
		for _, s := range []string{"", ",", "\\", "\\N", "N", "a,b", "\\,", ",\\", "\\\\,", "true", "0", "\x00", "\xff\xfe", "\u20ac", strings.Repeat("\\", 200), strings.Repeat(",x", 100)} {
			l = append(l, api.Value{Kind: 3, S: s})
		}
	}
	return l
}

// P12.4: Row of Record is the row, of all rows of three of few, and of all kinds of columns.
func TestRowOfRecord(t *testing.T) {
	for kinds := range 27 {
		cols := []api.Column{{Name: "a", Kind: 1 + kinds%3}, {Name: "b", Kind: 1 + kinds/3%3}, {Name: "c", Kind: 1 + kinds/9}}
		for _, x := range few(cols[0].Kind) {
			for _, y := range few(cols[1].Kind) {
				for _, z := range few(cols[2].Kind) {
					row := []api.Value{x, y, z}
					b, e := Record(cols, row)
					if e != api.OK {
						t.Fatalf("P12.3: Record(%v, %v): %d", cols, row, e)
					}
					if back, e := Row(cols, b); e != api.OK || !slices.Equal(back, row) {
						t.Fatalf("P12.4: Record(%v, %v) is %q, whose Row is %v, %d", cols, row, b, back, e)
					}
				}
			}
		}
	}
}

// P12.2, P12.4: records with a byte turned, left out or put in anywhere.
func TestSpoiledRecords(t *testing.T) {
	for _, c := range rows() {
		for at := range c.record {
			hold(t, c.cols, c.record[:at]+c.record[at+1:])
			hold(t, c.cols, c.record[:at])
			for _, piece := range []string{",", "\\", "N", "0", "-", "\\N", "\\\\", "\\,", " "} {
				hold(t, c.cols, c.record[:at]+piece+c.record[at+1:])
				hold(t, c.cols, c.record[:at]+piece+c.record[at:])
			}
		}
	}
}

// P12.2, R1: bytes mixed by a rule, of each count of columns.
func TestMixedRecords(t *testing.T) {
	pieces := []string{",", ",", ",", "\\", "N", "\\N", "0", "1", "-", "9", "true", "false", "\\,", "\\\\", "a", "\x00", "true,", "\\N,", "12,"}
	x := uint32(1)
	for n := 1; n <= 12; n++ {
		for range 3000 {
			s := ""
			for range x >> 16 % 30 {
				x = x*1664525 + 1013904223
				s += pieces[int(x>>16)%len(pieces)]
			}
			x = x*1664525 + 1013904223
			hold(t, numbered(n), s)
		}
	}
}
