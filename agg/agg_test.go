package agg

import (
	"math"
	"slices"
	"strings"
	"testing"

	"headgate/api"
	"headgate/value"
)

func same(v api.Value) api.Value { return v }

// The chapter's examples, and the like.
func TestExamples(t *testing.T) {
	const most, least = math.MaxInt64, math.MinInt64
	for i, c := range []struct {
		kind int
		l    []api.Value
		want api.Value
	}{
		{3, []api.Value{whole(most), whole(1), whole(-1)}, whole(most)}, {3, []api.Value{whole(most), whole(1)}, api.Value{}},
		{4, []api.Value{{}, text("b"), text("a")}, text("a")}, {5, []api.Value{{}, text("b"), text("a")}, text("b")},
		{1, []api.Value{{}, text("b"), {}}, whole(3)}, {2, []api.Value{{}, text("b"), {}}, whole(1)},
		{1, nil, whole(0)}, {2, nil, whole(0)}, {3, nil, api.Value{}}, {4, nil, api.Value{}}, {5, nil, api.Value{}},
		{1, []api.Value{{}}, whole(1)}, {2, []api.Value{{}}, whole(0)}, {3, []api.Value{{}}, api.Value{}}, {4, []api.Value{{}}, api.Value{}}, {5, []api.Value{{}}, api.Value{}},
		{3, []api.Value{whole(0)}, whole(0)}, {3, []api.Value{{}, whole(-4), {}, whole(3)}, whole(-1)}, {3, []api.Value{whole(1), whole(-1)}, whole(0)},
		{3, []api.Value{whole(least), whole(-1)}, api.Value{}}, {3, []api.Value{whole(least), whole(-1), whole(1)}, whole(least)},
		{3, []api.Value{whole(least), whole(least), whole(most), whole(most), whole(2)}, whole(0)}, {3, []api.Value{whole(most), whole(most)}, api.Value{}},
		{4, []api.Value{whole(2), whole(-3)}, whole(-3)}, {5, []api.Value{whole(2), whole(-3)}, whole(2)}, {4, []api.Value{whole(5)}, whole(5)}, {5, []api.Value{whole(-5)}, whole(-5)},
		{4, []api.Value{truth(1), truth(0)}, truth(0)}, {5, []api.Value{truth(0), truth(1)}, truth(1)}, {4, []api.Value{text("a"), text("")}, text("")}, {5, []api.Value{text("a"), text("a\x00")}, text("a\x00")},
		{4, []api.Value{text("a"), truth(1), whole(7)}, whole(7)}, {5, []api.Value{whole(7), truth(1), text("")}, text("")},
	} {
		a, e := Fold(c.kind, c.l, same)
		v, f := Worth(c.kind, a)
		if e != api.OK || f != api.OK || v != c.want {
			t.Errorf("P15.2: Worth %d: %v, %d, %d, not %v", i, v, e, f, c.want)
		}
	}
}

// P15.1: all kinds and columns, right or not.
func TestKind(t *testing.T) {
	right := 0
	for _, kind := range kindsPlain() {
		for _, col := range kindsPlain() {
			got, e := Kind(kind, col)
			want, ee := kindPlain(kind, col)
			if got != want || e != ee {
				t.Errorf("P15.1: Kind(%d, %d): %d, %d, not %d, %d", kind, col, got, e, want, ee)
			}
			if e == api.OK {
				right++
			}
		}
	}
	if right != 13 {
		t.Errorf("P15.1: %d kinds and columns are right", right)
	}
}

// P15.1, P15.2: a worth is null or of the kind that Kind tells, and values of a column that Kind allows are added.
func TestKindOfWorth(t *testing.T) {
	for kind := 1; kind <= 5; kind++ {
		for col := 1; col <= 3; col++ {
			want, e := Kind(kind, col)
			var a Acc
			for _, v := range rightValues() {
				if v.Kind != 0 && v.Kind != col {
					continue
				}
				more, f := Add(kind, a, v)
				if v.Kind != 0 && (f == api.OK) != (e == api.OK) {
					t.Errorf("P15.2: Add(%d, %v): %d, though Kind tells %d", kind, v, f, e)
				}
				a = more
				if w, _ := Worth(kind, a); f == api.OK && e == api.OK && w.Kind != 0 && w.Kind != want {
					t.Errorf("P15.1: Kind(%d, %d): %d, but the worth is %v", kind, col, want, w)
				}
			}
		}
	}
}

// P15.2: each kind, all that may be kept, and values that are right or not.
func TestAdd(t *testing.T) {
	values := append(rightValues(), wrongValues()...)
	for _, kind := range kindsPlain() {
		for _, a := range accs() {
			for _, v := range values {
				got, e := Add(kind, a, v)
				if want, ee := addPlain(kind, a, v); got != want || e != ee {
					t.Fatalf("P15.2: Add(%d, %v, %v): %v, %d, not %v, %d", kind, a, v, got, e, want, ee)
				}
			}
		}
	}
}

// P15.2: some of Add, written out.
func TestAddTable(t *testing.T) {
	const most, least = math.MaxInt64, math.MinInt64
	for i, c := range []struct {
		kind int
		a    Acc
		v    api.Value
		want Acc
		e    api.Errno
	}{
		{1, Acc{}, api.Value{}, Acc{N: 1}, 0}, {1, Acc{}, whole(7), Acc{N: 1}, 0}, {1, Acc{most, api.Sum{Hi: 1, Lo: 2}, text("a")}, truth(1), Acc{least, api.Sum{Hi: 1, Lo: 2}, text("a")}, 0},
		{2, Acc{N: 3}, api.Value{}, Acc{N: 3}, 0}, {2, Acc{N: 3}, text("a"), Acc{N: 4}, 0}, {2, Acc{most, api.Sum{}, api.Value{}}, whole(1), Acc{N: least}, 0}, {2, Acc{N: -1}, whole(1), Acc{}, 0},
		{3, Acc{}, whole(-1), Acc{N: 1, Sum: api.Sum{Hi: -1, Lo: math.MaxUint64}}, 0}, {3, Acc{}, api.Value{}, Acc{}, 0}, {3, Acc{N: 1, Sum: api.Sum{Lo: math.MaxUint64}}, whole(1), Acc{N: 2, Sum: api.Sum{Hi: 1}}, 0},
		{3, Acc{N: 1, Best: text("a")}, whole(5), Acc{2, api.Sum{Lo: 5}, text("a")}, 0}, {3, Acc{}, truth(1), Acc{}, 151}, {3, Acc{}, text(""), Acc{}, 151}, {3, Acc{N: 5}, api.Value{N: 1}, Acc{}, 151},
		{4, Acc{}, whole(7), Acc{N: 1, Best: whole(7)}, 0}, {4, Acc{Best: whole(5)}, whole(7), Acc{N: 1, Best: whole(7)}, 0}, {4, Acc{N: 1, Best: whole(5)}, whole(7), Acc{N: 2, Best: whole(5)}, 0},
		{4, Acc{N: 1, Best: whole(5)}, api.Value{}, Acc{N: 1, Best: whole(5)}, 0}, {4, Acc{N: 1, Sum: api.Sum{Lo: 9}, Best: whole(5)}, whole(4), Acc{2, api.Sum{Lo: 9}, whole(4)}, 0}, {4, Acc{N: -1, Best: whole(5)}, whole(7), Acc{N: 0, Best: whole(5)}, 0},
		{5, Acc{Best: text("z")}, text("a"), Acc{N: 1, Best: text("a")}, 0}, {5, Acc{N: 1, Best: text("z")}, text("a"), Acc{N: 2, Best: text("z")}, 0}, {5, Acc{N: most, Best: text("a")}, text("b"), Acc{N: least, Best: text("b")}, 0},
		{4, Acc{N: 2}, text(strings.Repeat("a", 201)), Acc{}, 151}, {1, Acc{N: 2}, api.Value{Kind: 4}, Acc{}, 151}, {2, Acc{N: 2}, api.Value{S: "a"}, Acc{}, 151},
		{0, Acc{N: 2}, whole(1), Acc{}, 150}, {6, Acc{N: 2}, api.Value{Kind: 4}, Acc{}, 150}, {-1, Acc{}, api.Value{}, Acc{}, 150},
	} {
		if got, e := Add(c.kind, c.a, c.v); got != c.want || e != c.e {
			t.Errorf("P15.2: Add %d: %v, %d, not %v, %d", i, got, e, c.want, c.e)
		}
	}
}

// P15.2: each kind, and twice all that may be kept.
func TestBoth(t *testing.T) {
	all := accs()
	for _, kind := range kindsPlain() {
		for _, a := range all {
			for _, b := range all {
				got, e := Both(kind, a, b)
				if want, ee := bothPlain(kind, a, b); got != want || e != ee {
					t.Fatalf("P15.2: Both(%d, %v, %v): %v, %d, not %v, %d", kind, a, b, got, e, want, ee)
				}
			}
		}
	}
}

// P15.2: some of Both, written out.
func TestBothTable(t *testing.T) {
	a, b := Acc{2, api.Sum{Hi: 0, Lo: math.MaxUint64}, whole(3)}, Acc{5, api.Sum{Hi: 4, Lo: 2}, whole(-3)}
	none := Acc{0, api.Sum{Lo: 8}, whole(-9)}
	for i, c := range []struct {
		kind       int
		a, b, want Acc
		e          api.Errno
	}{
		{1, a, b, Acc{7, a.Sum, a.Best}, 0}, {2, b, a, Acc{7, b.Sum, b.Best}, 0}, {3, a, b, Acc{7, api.Sum{Hi: 5, Lo: 1}, a.Best}, 0}, {3, b, a, Acc{7, api.Sum{Hi: 5, Lo: 1}, b.Best}, 0},
		{4, a, b, Acc{7, a.Sum, whole(-3)}, 0}, {4, b, a, Acc{7, b.Sum, whole(-3)}, 0}, {5, a, b, Acc{7, a.Sum, whole(3)}, 0}, {5, b, a, Acc{7, b.Sum, whole(3)}, 0},
		{4, a, none, a, 0}, {4, none, a, Acc{2, none.Sum, whole(3)}, 0}, {5, none, b, Acc{5, none.Sum, whole(-3)}, 0}, {5, b, none, b, 0}, {4, none, Acc{}, none, 0}, {5, none, Acc{}, none, 0}, {4, Acc{}, none, Acc{}, 0},
		{3, none, none, Acc{0, api.Sum{Lo: 16}, whole(-9)}, 0}, {1, Acc{N: math.MaxInt64}, Acc{N: 1}, Acc{N: math.MinInt64}, 0}, {2, Acc{N: math.MinInt64}, Acc{N: math.MinInt64}, Acc{}, 0},
		{0, a, b, Acc{}, 150}, {6, a, b, Acc{}, 150},
	} {
		if got, e := Both(c.kind, c.a, c.b); got != c.want || e != c.e {
			t.Errorf("P15.2: Both %d: %v, %d, not %v, %d", i, got, e, c.want, c.e)
		}
	}
}

// P15.2: each kind, and all that may be kept.
func TestWorth(t *testing.T) {
	for _, kind := range kindsPlain() {
		for _, a := range accs() {
			got, e := Worth(kind, a)
			if want, ee := worthPlain(kind, a); got != want || e != ee {
				t.Errorf("P15.2: Worth(%d, %v): %v, %d, not %v, %d", kind, a, got, e, want, ee)
			}
		}
	}
}

// P15.2: all lists of up to three values, right or not, of which those that are wrong at whatever place.
func TestFold(t *testing.T) {
	values := []api.Value{{}, whole(-1), whole(math.MaxInt64), truth(1), text("a"), {Kind: 4}, {Kind: 2, N: 2}}
	lists, last := [][]api.Value{nil, {}}, [][]api.Value{nil}
	for range 3 {
		var longer [][]api.Value
		for _, l := range last {
			for _, v := range values {
				longer = append(longer, append(slices.Clone(l), v))
			}
		}
		lists, last = append(lists, longer...), longer
	}
	for _, kind := range []int{-1, 0, 1, 2, 3, 4, 5, 6, math.MinInt, math.MaxInt} {
		for _, l := range lists {
			var want Acc
			wrong := api.OK
			for _, v := range l {
				if want, wrong = addPlain(kind, want, v); wrong != api.OK {
					break
				}
			}
			if got, e := Fold(kind, l, same); got != want || e != wrong {
				t.Fatalf("P15.2: Fold(%d, %v): %v, %d, not %v, %d", kind, l, got, e, want, wrong)
			}
		}
	}
}

// P15.2: items of other types, each asked for once, in order, up to the first error.
func TestFoldOfItems(t *testing.T) {
	type item struct{ name, other string }
	items := []item{{"b", "9"}, {"", "8"}, {"a", "7"}, {strings.Repeat("x", 201), "6"}, {"c", "5"}}
	asked := ""
	name := func(x item) api.Value {
		asked += x.other
		if x.name == "" {
			return api.Value{}
		}
		return text(x.name)
	}
	if a, e := Fold(4, items[:3], name); a != (Acc{N: 2, Best: text("a")}) || e != api.OK || asked != "987" {
		t.Errorf("P15.2: Fold of items: %v, %d, asked %q", a, e, asked)
	}
	asked = ""
	if a, e := Fold(5, items, name); a != (Acc{}) || e != api.ErrAggForm || asked != "9876" {
		t.Errorf("P15.2: Fold of a wrong item: %v, %d, asked %q", a, e, asked)
	}
	if a, e := Fold(3, []int{1, 2, 3, 4}, func(n int) api.Value { return whole(int64(n * n)) }); a != (Acc{N: 4, Sum: api.Sum{Lo: 30}}) || e != api.OK {
		t.Errorf("P15.2: Fold of ints: %v, %d", a, e)
	}
	if a, e := Fold(3, []*int{nil, nil}, func(*int) api.Value { return whole(-1) }); a != (Acc{N: 2, Sum: api.Sum{Hi: -1, Lo: math.MaxUint64 - 1}}) || e != api.OK {
		t.Errorf("P15.2: Fold of pointers: %v, %d", a, e)
	}
	if a, e := Fold(1, make([]struct{}, 1000), func(struct{}) api.Value { return api.Value{} }); a.N != 1000 || e != api.OK {
		t.Errorf("P15.2: Fold of many: %v, %d", a, e)
	}
}

// R1, R4: no function ends in no panic, and a list stays as it is, its spare room too.
func TestFoldLeavesAll(t *testing.T) {
	for _, kind := range []int{0, 1, 2, 3, 4, 5, 6} {
		want := api.ErrNil
		if kind < 1 || kind > 5 {
			want = api.ErrAggKind
		}
		if a, e := Fold(kind, []int{1}, nil); a != (Acc{}) || e != want {
			t.Errorf("R1: Fold(%d) of no function: %v, %d, not %d", kind, a, e, want)
		}
		if a, e := Fold(kind, []int(nil), nil); a != (Acc{}) || e != api.OK {
			t.Errorf("R1: Fold(%d) of nothing: %v, %d", kind, a, e)
		}
		all := []api.Value{whole(3), whole(1), {}, whole(2), whole(9)}
		own := slices.Clone(all)
		Fold(kind, own[:4], same)
		if !slices.Equal(own, all) {
			t.Errorf("R4: Fold(%d) wrote %v", kind, own)
		}
	}
}

// P15.3: what is kept, as four values, written out.
func TestPack(t *testing.T) {
	for i, c := range []struct {
		a    Acc
		want []api.Value
	}{
		{Acc{}, []api.Value{whole(0), whole(0), whole(0), {}}}, {Acc{1, api.Sum{Hi: 2, Lo: 3}, text("a")}, []api.Value{whole(1), whole(2), whole(3), text("a")}},
		{Acc{-1, api.Sum{Hi: -2, Lo: math.MaxUint64}, truth(1)}, []api.Value{whole(-1), whole(-2), whole(-1), truth(1)}},
		{Acc{math.MaxInt64, api.Sum{Hi: math.MinInt64, Lo: 1 << 63}, whole(5)}, []api.Value{whole(math.MaxInt64), whole(math.MinInt64), whole(math.MinInt64), whole(5)}},
		{Acc{math.MinInt64, api.Sum{Hi: math.MaxInt64, Lo: 1<<63 - 1}, whole(-5)}, []api.Value{whole(math.MinInt64), whole(math.MaxInt64), whole(math.MaxInt64), whole(-5)}},
		{Acc{7, api.Sum{Lo: 1<<63 + 1}, text("")}, []api.Value{whole(7), whole(0), whole(math.MinInt64 + 1), text("")}}, {Acc{Best: api.Value{Kind: 4, N: 1, S: "x"}}, []api.Value{whole(0), whole(0), whole(0), {Kind: 4, N: 1, S: "x"}}},
	} {
		if l := Pack(c.a); !slices.Equal(l, c.want) {
			t.Errorf("P15.3: Pack %d: %v, not %v", i, l, c.want)
		}
	}
}

// P15.3: of all that may be kept Unpack of Pack is the same, if Best is right, and Pack is a right row then.
func TestUnpackOfPack(t *testing.T) {
	all := accs()
	for _, v := range append(rightValues(), wrongValues()...) {
		all = append(all, Acc{N: 3, Sum: api.Sum{Hi: -7, Lo: 9}, Best: v})
	}
	for _, a := range all {
		l := Pack(a)
		got, e := Unpack(l)
		if !rightPlain(a.Best) {
			if got != (Acc{}) || e != api.ErrAggForm {
				t.Errorf("P15.3: Unpack(%v): %v, %d", l, got, e)
			}
			continue
		}
		if got != a || e != api.OK || !value.Row(l) {
			t.Errorf("P15.3: Unpack(%v): %v, %d, not %v", l, got, e, a)
		}
		if again := Pack(got); !slices.Equal(again, l) {
			t.Errorf("P15.3: Pack of Unpack(%v): %v", l, again)
		}
	}
}

// P15.3: values each of which stands at each place, and lists of each length.
func TestUnpackWrong(t *testing.T) {
	for at := range 4 {
		for _, v := range append(rightValues(), wrongValues()...) {
			l := []api.Value{whole(1), whole(2), whole(3), text("a")}
			l[at] = v
			right := at < 3 && v.Kind == 1 && v.S == "" || at == 3 && rightPlain(v)
			a, e := Unpack(l)
			if right && (e != api.OK || !slices.Equal(Pack(a), l)) || !right && (e != api.ErrAggForm || a != (Acc{})) {
				t.Errorf("P15.3: Unpack(%v): %v, %d", l, a, e)
			}
		}
	}
	for n := range 20 {
		for _, v := range []api.Value{whole(1), {}} {
			l := slices.Repeat([]api.Value{v}, n)
			right := n == 4 && v.Kind == 1
			if a, e := Unpack(l); (e == api.OK) != right || !right && (e != api.ErrAggForm || a != (Acc{})) {
				t.Errorf("P15.3: Unpack of %d values: %v, %d", n, a, e)
			}
		}
	}
	if a, e := Unpack(nil); a != (Acc{}) || e != api.ErrAggForm {
		t.Errorf("P15.3: Unpack of nil: %v, %d", a, e)
	}
}

// R4: what is told is new memory, and what is handed in stays.
func TestPackTellsNewMemory(t *testing.T) {
	a := Acc{1, api.Sum{Hi: 2, Lo: 3}, text("a")}
	l, want := Pack(a), Pack(a)
	clear(l[:cap(l)])
	if again := Pack(a); !slices.Equal(again, want) {
		t.Errorf("R4: Pack: %v", again)
	}
	own := append(slices.Clone(want), whole(9), whole(8))
	if got, e := Unpack(own[:4]); got != a || e != api.OK || !slices.Equal(own, append(want, whole(9), whole(8))) {
		t.Errorf("R4: Unpack: %v, %d, wrote %v", got, e, own)
	}
}
