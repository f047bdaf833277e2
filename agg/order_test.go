package agg

import (
	"math"
	"math/rand"
	"slices"
	"testing"

	"headgate/api"
)

// P15.4 follows: whatever the order and the groups, the worth is the same.

// orders tells l in every order, in place.
func orders(l []api.Value, tell func([]api.Value)) {
	var from func(int)
	from = func(at int) {
		if at == len(l) {
			tell(l)
			return
		}
		for i := at; i < len(l); i++ {
			l[at], l[i] = l[i], l[at]
			from(at + 1)
			l[at], l[i] = l[i], l[at]
		}
	}
	from(0)
}

// grouped answers what is kept of l in groups, cut where cuts has a bit, taken together from the left or from the right.
func grouped(t *testing.T, kind int, l []api.Value, cuts int, fromRight bool) Acc {
	var groups []Acc
	from := 0
	for i := range l {
		if i == len(l)-1 || cuts>>i&1 == 1 {
			a, e := Fold(kind, l[from:i+1], same)
			if e != api.OK {
				t.Fatalf("P15.2: Fold(%d, %v): %d", kind, l[from:i+1], e)
			}
			groups, from = append(groups, a), i+1
		}
	}
	var all Acc
	if fromRight {
		slices.Reverse(groups)
	}
	for _, a := range groups {
		one, two := all, a
		if fromRight {
			one, two = a, all
		}
		both, e := Both(kind, one, two)
		if e != api.OK {
			t.Fatalf("P15.2: Both(%d): %d", kind, e)
		}
		all = both
	}
	return all
}

// sorts answers lists of values of one column each, of up to six values, null among them.
func sorts() [][]api.Value {
	const most, least = math.MaxInt64, math.MinInt64
	return [][]api.Value{
		nil, {{}}, {{}, {}}, {whole(0)}, {whole(most), whole(1), whole(-1)}, {whole(most), {}, whole(most), whole(least), whole(least)}, {whole(least), whole(-1), {}, whole(1), whole(3)},
		{whole(most), whole(most), whole(most), {}, whole(-1)}, {truth(1), truth(0), {}, truth(1), truth(0)}, {text("a"), text("b"), text(""), {}, text("a\x00"), text("a")}, {text("b"), {}, {}, text("b")},
	}
}

func TestOrderAndGroups(t *testing.T) {
	for kind := 1; kind <= 5; kind++ {
		for _, l := range sorts() {
			if len(l) > 0 && l[0].Kind > 1 && kind == 3 {
				continue
			}
			want := ofAllPlain(kind, l)
			orders(slices.Clone(l), func(l []api.Value) {
				for cuts := range 1 << max(len(l)-1, 0) {
					for _, fromRight := range []bool{false, true} {
						a := grouped(t, kind, l, cuts, fromRight)
						if v, e := Worth(kind, a); v != want || e != api.OK {
							t.Fatalf("P15.4: %d of %v in groups by %b: %v, %d, not %v", kind, l, cuts, v, e, want)
						}
					}
				}
			})
		}
	}
}

// Longer lists, in groups of groups, each packed and unpacked between.
func TestGroupsOfGroups(t *testing.T) {
	chance := rand.New(rand.NewSource(15))
	var of func(kind int, l []api.Value) Acc
	of = func(kind int, l []api.Value) Acc {
		if len(l) < 2 || chance.Intn(8) == 0 {
			a, _ := Fold(kind, l, same)
			return a
		}
		at := chance.Intn(len(l) + 1)
		both, _ := Both(kind, of(kind, l[:at]), of(kind, l[at:]))
		a, e := Unpack(Pack(both))
		if e != api.OK {
			t.Fatalf("P15.3: Unpack of %v: %d", both, e)
		}
		return a
	}
	values := rightValues()
	for round := range 400 {
		var l []api.Value
		for range chance.Intn(60) {
			if v := values[chance.Intn(len(values))]; v.Kind == 0 || v.Kind == 1+round%3 {
				l = append(l, v)
			}
		}
		for kind := 1; kind <= 5; kind++ {
			if kind == 3 && round%3 != 0 {
				continue
			}
			chance.Shuffle(len(l), func(i, j int) { l[i], l[j] = l[j], l[i] })
			if v, e := Worth(kind, of(kind, l)); v != ofAllPlain(kind, l) || e != api.OK {
				t.Fatalf("P15.4: %d of %v: %v, %d, not %v", kind, l, v, e, ofAllPlain(kind, l))
			}
		}
	}
}
