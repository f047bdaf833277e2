package decode

import (
	"bytes"
	"math"
	"slices"
	"strings"
	"testing"

	"headgate/api"
)

func ints(names ...string) []api.Column {
	var l []api.Column
	for _, s := range names {
		l = append(l, api.Column{Name: s, Kind: 1})
	}
	return l
}

// numbered answers n right columns, of all kinds in turn.
func numbered(n int) []api.Column {
	var l []api.Column
	for i := range n {
		l = append(l, api.Column{Name: "c" + strings.Repeat("x", i), Kind: 1 + i%3})
	}
	return l
}

func with(cols []api.Column, at int, c api.Column) []api.Column {
	cols = slices.Clone(cols)
	cols[at] = c
	return cols
}

// names answers columns' names.
func names() []string {
	l := []string{"a", "z", "m", "aa", "a0", "a9", "z0z", "time", "wstart", "n0123456789", "abcdefghijklmnop", "q", strings.Repeat("z", 16), "a" + strings.Repeat("0", 15)}
	for c := byte('a'); c <= 'z'; c++ {
		l = append(l, string([]byte{c, 'b', c}))
	}
	return l
}

// noNames answers texts that aren't columns' names.
func noNames() []string {
	return []string{
		"", "0", "9", "0a", "9z", "A", "Z", "aB", "Ab", "_", "_a", "a_", "a_b", " ", " a", "a ", "a b", "-", "a-b", "-a", ".", "a.b", "\\", "a\\", ",", "a,b", "a,", "\x00", "a\x00", "\x00a",
		"\x80", "a\x80", "a\xff", "\xff", "\u00e4", "a\u00e4", "\u0660", "a\u0660", "a\uff10", "\uff41", "`", "{", "a`", "a{", "a/", "a:", "a\n", "\na", "/", ":", "@", "[",
		"abcdefghijklmnopq", strings.Repeat("z", 17), "a" + strings.Repeat("0", 16), strings.Repeat("a", 200), strings.Repeat("a", 256+16), strings.Repeat("\u00e4", 8), "0123456789",
	}
}

// P12.1
func TestName(t *testing.T) {
	for _, s := range names() {
		if !Name(s) {
			t.Errorf("P12.1: Name(%q): false", s)
		}
	}
	for _, s := range noNames() {
		if Name(s) {
			t.Errorf("P12.1: Name(%q): true", s)
		}
	}
}

// P12.1: each byte at each place of names of each length.
func TestNameByBytes(t *testing.T) {
	for n := 1; n <= 20; n++ {
		for at := range n {
			for c := range 256 {
				s := []byte(strings.Repeat("k", n))
				s[at] = byte(c)
				letter := strings.IndexByte("abcdefghijklmnopqrstuvwxyz", byte(c)) >= 0
				digit := strings.IndexByte("0123456789", byte(c)) >= 0
				want := n <= 16 && (letter || digit && at > 0)
				if Name(string(s)) != want {
					t.Fatalf("P12.1: Name(%q): %v", s, !want)
				}
			}
		}
	}
}

// P12.1
func TestCheck(t *testing.T) {
	for n := range 40 {
		want := api.OK
		if n < 1 || n > 12 {
			want = 120
		}
		if e := Check(numbered(n)); n <= 16 && e != want {
			t.Errorf("P12.1: Check of %d columns: %d", n, e)
		}
		var l []api.Column
		for i := range n {
			l = append(l, api.Column{Name: string([]byte{'a' + byte(i/10), '0' + byte(i%10)}), Kind: 3})
		}
		if e := Check(l); e != want {
			t.Errorf("P12.1: Check of %d columns: %d", n, e)
		}
	}
	if Check(nil) != api.ErrSchema || Check([]api.Column{}) != api.ErrSchema {
		t.Error("P12.1, R3: Check of no columns")
	}
	for _, s := range names() {
		for k := 1; k <= 3; k++ {
			if e := Check([]api.Column{{Name: s, Kind: k}}); e != api.OK {
				t.Errorf("P12.1: Check of %q of kind %d: %d", s, k, e)
			}
		}
	}
}

// noKinds answers kinds that a column can't have.
func noKinds() []int {
	return []int{0, 4, 5, -1, -2, -3, 255, 256, 257, 258, 259, 1 << 32, 1<<32 + 1, 1<<32 + 3, -1<<32 + 2, math.MinInt, math.MinInt + 1, math.MaxInt}
}

// wrongColumns answers lists of columns that aren't right, with a single fault each.
func wrongColumns() [][]api.Column {
	lists := [][]api.Column{nil, {}, {{}}, numbered(13), slices.Repeat(ints("a"), 2), slices.Repeat(ints("a"), 100)}
	for n := 1; n <= 12; n++ {
		right := numbered(n)
		for at, c := range right {
			for _, k := range noKinds() {
				lists = append(lists, with(right, at, api.Column{Name: c.Name, Kind: k}))
			}
			for _, s := range noNames() {
				lists = append(lists, with(right, at, api.Column{Name: s, Kind: c.Kind}))
			}
			for other := range at {
				lists = append(lists, with(right, at, api.Column{Name: right[other].Name, Kind: c.Kind}), with(right, at, right[other]))
			}
		}
	}
	return lists
}

// P12.1, P12.2, P12.3: ErrSchema comes ahead of all other errors.
func TestWrongColumns(t *testing.T) {
	for _, cols := range wrongColumns() {
		if e := Check(cols); e != api.ErrSchema {
			t.Fatalf("P12.1: Check(%v): %d", cols, e)
		}
		for _, b := range []string{"", "0", "x", "\\", strings.Repeat("0,", max(len(cols), 1)-1) + "0", strings.Repeat("\\N,", max(len(cols), 1)-1) + "\\N"} {
			if row, e := Row(cols, []byte(b)); e != api.ErrSchema || len(row) != 0 {
				t.Fatalf("P12.2: Row(%v, %q): %v, %d", cols, b, row, e)
			}
		}
		for _, row := range [][]api.Value{nil, {{}}, make([]api.Value, len(cols)), make([]api.Value, len(cols)+1), {{Kind: 9}}, slices.Repeat([]api.Value{{Kind: 1, S: "x"}}, len(cols))} {
			if b, e := Record(cols, row); e != api.ErrSchema || len(b) != 0 {
				t.Fatalf("P12.3: Record(%v, %v): %q, %d", cols, row, b, e)
			}
		}
	}
}

// P12.1
func TestFind(t *testing.T) {
	cols := numbered(12)
	for i, c := range cols {
		if at, ok := Find(cols, c.Name); at != i || !ok {
			t.Errorf("P12.1: Find(%q): %d, %v, not %d", c.Name, at, ok, i)
		}
		if at, ok := Find(cols[:i], c.Name); at != 0 || ok {
			t.Errorf("P12.1: Find(%q) ahead of it: %d, %v", c.Name, at, ok)
		}
	}
	for _, s := range []string{"", "x", "C", "cX", "c ", " c", "c\x00", "c" + strings.Repeat("x", 12)} {
		if at, ok := Find(cols, s); at != 0 || ok {
			t.Errorf("P12.1: Find(%q): %d, %v", s, at, ok)
		}
	}
	for _, s := range []string{"", "a"} {
		if at, ok := Find(nil, s); at != 0 || ok {
			t.Errorf("P12.1: Find(nil, %q): %d, %v", s, at, ok)
		}
	}
}

// P12.1: of any columns, right or not, the first of the name.
func TestFindInAnyColumns(t *testing.T) {
	l := []api.Column{{Name: "A", Kind: -4}, {Name: "b"}, {Name: "b", Kind: 1}, {}, {Name: "\xff,", Kind: 3}, {Kind: 2}, {Name: "A", Kind: 1}, {Name: "c", Kind: 99}, {Name: strings.Repeat("n", 1000)}}
	for name, want := range map[string]int{"A": 0, "b": 1, "": 3, "\xff,": 4, "c": 7, strings.Repeat("n", 1000): 8} {
		if at, ok := Find(l, name); at != want || !ok {
			t.Errorf("P12.1: Find(%q): %d, %v, not %d", name, at, ok, want)
		}
	}
	for _, name := range []string{"a", "B", "bb", "\xff", "\ufffd,", strings.Repeat("n", 999)} {
		if at, ok := Find(l, name); at != 0 || ok {
			t.Errorf("P12.1: Find(%q): %d, %v", name, at, ok)
		}
	}
	many := append(slices.Repeat(l, 1000), ints("last", "last")...)
	if at, ok := Find(many, "last"); at != 1000*len(l) || !ok {
		t.Errorf("P12.1: Find of the last of many: %d, %v", at, ok)
	}
}

// The chapter's examples.
func TestExamples(t *testing.T) {
	cols := []api.Column{{Name: "a", Kind: 1}, {Name: "b", Kind: 3}}
	if row, e := Row(cols, []byte(`-7,x\,y`)); e != api.OK || !slices.Equal(row, []api.Value{{Kind: 1, N: -7}, {Kind: 3, S: "x,y"}}) {
		t.Errorf("P12.2: %v, %d", row, e)
	}
	if row, e := Row(cols, []byte("07,x")); e != api.ErrField || len(row) != 0 {
		t.Errorf("P12.2: %v, %d", row, e)
	}
	if row, e := Row(cols, []byte("1")); e != api.ErrCount || len(row) != 0 {
		t.Errorf("P12.2: %v, %d", row, e)
	}
	if row, e := Row(cols, []byte(`\N,`)); e != api.OK || !slices.Equal(row, []api.Value{{}, {Kind: 3}}) {
		t.Errorf("P12.2: %v, %d", row, e)
	}
}

// rows answers right columns, rows of them, and their records, written out by hand.
func rows() []struct {
	cols   []api.Column
	row    []api.Value
	record string
} {
	null, yes, no := api.Value{}, api.Value{Kind: 2, N: 1}, api.Value{Kind: 2}
	number := func(n int64) api.Value { return api.Value{Kind: 1, N: n} }
	text := func(s string) api.Value { return api.Value{Kind: 3, S: s} }
	one := func(k int) []api.Column { return []api.Column{{Name: "a", Kind: k}} }
	all := []api.Column{{Name: "a", Kind: 1}, {Name: "b", Kind: 2}, {Name: "c", Kind: 3}}
	long := strings.Repeat("x", 200)
	return []struct {
		cols   []api.Column
		row    []api.Value
		record string
	}{
		{one(1), []api.Value{null}, `\N`},
		{one(2), []api.Value{null}, `\N`},
		{one(3), []api.Value{null}, `\N`},
		{one(1), []api.Value{number(0)}, "0"},
		{one(1), []api.Value{number(-1)}, "-1"},
		{one(1), []api.Value{number(math.MaxInt64)}, "9223372036854775807"},
		{one(1), []api.Value{number(math.MinInt64)}, "-9223372036854775808"},
		{one(2), []api.Value{yes}, "true"},
		{one(2), []api.Value{no}, "false"},
		{one(3), []api.Value{text("")}, ""},
		{one(3), []api.Value{text("x")}, "x"},
		{one(3), []api.Value{text(",")}, `\,`},
		{one(3), []api.Value{text(`\`)}, `\\`},
		{one(3), []api.Value{text(`\N`)}, `\\N`},
		{one(3), []api.Value{text("N")}, "N"},
		{one(3), []api.Value{text(`\,`)}, `\\\,`},
		{one(3), []api.Value{text(`,\`)}, `\,\\`},
		{one(3), []api.Value{text(`\\`)}, `\\\\`},
		{one(3), []api.Value{text(",,")}, `\,\,`},
		{one(3), []api.Value{text(`a,b\c`)}, `a\,b\\c`},
		{one(3), []api.Value{text("\x00\xff\n \"'")}, "\x00\xff\n \"'"},
		{one(3), []api.Value{text("\u00e4\u20ac")}, "\u00e4\u20ac"},
		{one(3), []api.Value{text("\xdc\xac")}, "\xdc\xac"},
		{one(3), []api.Value{text("true")}, "true"},
		{one(3), []api.Value{text("-07")}, "-07"},
		{one(3), []api.Value{text(long)}, long},
		{one(3), []api.Value{text(strings.Repeat(",", 200))}, strings.Repeat(`\,`, 200)},
		{one(3), []api.Value{text(strings.Repeat(`\`, 200))}, strings.Repeat(`\\`, 200)},
		{all, []api.Value{null, null, null}, `\N,\N,\N`},
		{all, []api.Value{number(10), yes, text("")}, "10,true,"},
		{all, []api.Value{number(-300), no, text(`,\`)}, `-300,false,\,\\`},
		{all, []api.Value{number(7), null, text("N")}, `7,\N,N`},
		{[]api.Column{all[2], all[0], all[1]}, []api.Value{text(`\`), number(1), yes}, `\\,1,true`},
		{[]api.Column{{Name: "a", Kind: 3}, {Name: "b", Kind: 3}}, []api.Value{text(""), text("")}, ","},
		{[]api.Column{{Name: "a", Kind: 3}, {Name: "b", Kind: 3}}, []api.Value{text(","), text(",")}, `\,,\,`},
		{numbered(12)[2:], slices.Repeat([]api.Value{null}, 10), strings.Repeat(`\N,`, 9) + `\N`},
		{numbered(12), slices.Repeat([]api.Value{number(9), yes, text("ab")}, 4), "9,true,ab,9,true,ab,9,true,ab,9,true,ab"},
	}
}

// P12.2, P12.3, P12.4
func TestRowsAndTheirRecords(t *testing.T) {
	for _, c := range rows() {
		if row, e := Row(c.cols, []byte(c.record)); e != api.OK || !slices.Equal(row, c.row) {
			t.Errorf("P12.2: Row(%v, %q): %v, %d", c.cols, c.record, row, e)
		}
		if b, e := Record(c.cols, c.row); e != api.OK || string(b) != c.record {
			t.Errorf("P12.3: Record(%v, %v): %q, %d", c.cols, c.row, b, e)
		}
	}
}

// P12.2: more fields or fewer than columns, whatever they say.
func TestRowOfAnotherCount(t *testing.T) {
	for n := 1; n <= 12; n++ {
		for k := 1; k <= 40; k++ {
			for _, field := range []string{`\N`, "", "x", "0", "true", "-", `\,`, `a\b`, `\\`} {
				for _, behind := range []string{"", `\`} {
					s := strings.Repeat(field+",", k-1) + field + behind
					row, e := Row(numbered(n), []byte(s))
					if n != k && (e != api.ErrCount || len(row) != 0) || n == k && e == api.ErrCount {
						t.Fatalf("P12.2: Row of %d columns and %q: %v, %d", n, s, row, e)
					}
				}
			}
		}
	}
	for _, b := range []string{strings.Repeat(",", 1<<20), strings.Repeat("0,", 1<<20) + "x", "1,1" + strings.Repeat(`,\,`, 1<<20), "1,2,3,"} {
		if row, e := Row(ints("a", "b", "c"), []byte(b)); e != api.ErrCount || len(row) != 0 {
			t.Errorf("P12.2: Row of many fields: %v, %d", row, e)
		}
	}
	if row, e := Row(ints("a", "b"), nil); e != api.ErrCount || len(row) != 0 {
		t.Errorf("P12.2: Row of nil: %v, %d", row, e)
	}
}

// P12.2: one field that says nothing, wherever it stands.
func TestRowWithAWrongField(t *testing.T) {
	right := []string{"9", "true", "x"}
	wrong := [][]string{{"", "07", "x", "true", `\n`, "9223372036854775808"}, {"", "1", "0", "True", `\`, "truex"}, {`\n`, `a\`, `\N\N`, `\N `, strings.Repeat("y", 201)}}
	for n := 1; n <= 12; n++ {
		for at := range n {
			for _, field := range wrong[at%3] {
				fields := make([]string, n)
				for i := range fields {
					fields[i] = right[i%3]
				}
				fields[at] = field
				s := strings.Join(fields, ",")
				want := api.ErrField
				// A backslash at a field's end takes the comma with it, where one is behind it.
				if strings.HasSuffix(field, `\`) && at < n-1 {
					want = api.ErrCount
				}
				if row, e := Row(numbered(n), []byte(s)); e != want || len(row) != 0 {
					t.Fatalf("P12.2: Row of %d columns and %q: %v, %d", n, s, row, e)
				}
			}
		}
	}
}

// P12.3
func TestRecordOfAnotherCount(t *testing.T) {
	for n := 1; n <= 12; n++ {
		for k := range 40 {
			for _, v := range []api.Value{{}, {Kind: 1}, {Kind: 9}, {S: "x"}} {
				b, e := Record(numbered(n), slices.Repeat([]api.Value{v}, k))
				if n != k && (e != api.ErrCount || len(b) != 0) || n == k && e == api.ErrCount {
					t.Fatalf("P12.3: Record of %d columns and %d of %v: %q, %d", n, k, v, b, e)
				}
			}
		}
	}
}

// wrongValues answers values that aren't right.
func wrongValues() []api.Value {
	long := strings.Repeat("x", 201)
	l := []api.Value{
		{N: 1}, {S: "x"}, {N: -1, S: "x"}, {S: `\N`}, {Kind: 1, S: "x"}, {Kind: 1, N: 1, S: "1"}, {Kind: 2, N: 2}, {Kind: 2, N: -1}, {Kind: 2, S: "true"}, {Kind: 2, N: 1, S: "true"}, {Kind: 2, N: 257},
		{Kind: 3, N: 1}, {Kind: 3, N: 1, S: "x"}, {Kind: 3, S: long}, {Kind: 3, S: strings.Repeat("\u00e4", 101)}, {Kind: 3, S: long + long}, {Kind: 3, S: strings.Repeat(",", 201)},
	}
	for _, k := range noKinds()[1:] {
		l = append(l, api.Value{Kind: k}, api.Value{Kind: k, N: 1}, api.Value{Kind: k, S: "x"})
	}
	return l
}

// P12.3: one value that isn't right, or is of another kind, wherever it stands.
func TestRecordOfWrongValues(t *testing.T) {
	right := []api.Value{{Kind: 1, N: 3}, {Kind: 2, N: 1}, {Kind: 3, S: "x"}}
	for n := 1; n <= 12; n++ {
		cols := numbered(n)
		for at := range n {
			wrong := wrongValues()
			for k := range right {
				if k != at%3 {
					wrong = append(wrong, right[k], api.Value{Kind: right[k].Kind})
				}
			}
			for _, v := range wrong {
				row := slices.Repeat(right, 4)[:n]
				row[at] = v
				if b, e := Record(cols, row); e != api.ErrField || len(b) != 0 {
					t.Fatalf("P12.3: Record with %v at %d of %d: %q, %d", v, at, n, b, e)
				}
			}
		}
	}
}

// R4: what is handed in stays, spare room behind its end too; what is told shares no memory with it.
func TestArgumentsStay(t *testing.T) {
	for _, c := range rows() {
		cols, row, b := append(slices.Clone(c.cols), api.Column{Name: "behind"}), append(slices.Clone(c.row), api.Value{Kind: 7}), []byte(c.record+"behind")
		n, size := len(c.cols), len(c.record)
		Check(cols[:n])
		Find(cols[:n], "c")
		told, _ := Row(cols[:n], b[:size])
		fields := Split(b[:size])
		record, _ := Record(cols[:n], row[:n])
		if !slices.Equal(cols[:n], c.cols) || cols[n].Name != "behind" || !slices.Equal(row[:n], c.row) || row[n].Kind != 7 || string(b) != c.record+"behind" {
			t.Fatalf("R4: %v, %v, %q became %v, %v, %q", c.cols, c.row, c.record, cols, row, b)
		}
		clear(b)
		clear(cols)
		clear(row)
		if !slices.Equal(told, c.row) || string(record) != c.record || string(bytes.Join(fields, []byte(","))) != c.record {
			t.Fatalf("R4: what was told became %v, %q, %q", told, record, fields)
		}
	}
}

// R4, R6: answers share nothing with one another; nothing is kept between calls.
func TestCallsAreAlike(t *testing.T) {
	for range 3 {
		for _, c := range rows() {
			row, _ := Row(c.cols, []byte(c.record))
			b, _ := Record(c.cols, c.row)
			clear(row)
			clear(b[:cap(b)])
			_, _ = Row(c.cols, []byte(`\,\`))
			_, _ = Record(c.cols, nil)
			if again, e := Row(c.cols, []byte(c.record)); e != api.OK || !slices.Equal(again, c.row) {
				t.Fatalf("R6: Row(%q) became %v, %d", c.record, again, e)
			}
			if again, e := Record(c.cols, c.row); e != api.OK || string(again) != c.record {
				t.Fatalf("R6: Record(%v) became %q, %d", c.row, again, e)
			}
		}
	}
}
