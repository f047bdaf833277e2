package table

import (
	"fmt"
	"math"
	"math/bits"
	"math/rand"
	"slices"
	"testing"
)

// written answers what a table has, as a text.
func written[V comparable](t *Table[V]) string {
	s := ""
	for key, v := range t.All() {
		s += fmt.Sprintf("%s:%v ", key, v)
	}
	return s
}

// P17.3: the chapter's example.
func TestExample(t *testing.T) {
	a, b := New(Entry[int]{"a", 1}, Entry[int]{"b", 2}), New(Entry[int]{"b", 3})
	if l := Diff(a, b); !slices.Equal(l, []Change[int]{{"a", 0, true}, {"b", 3, false}}) {
		t.Errorf("P17.3: Diff: %v", l)
	}
}

// P17.1: each call by hand.
func TestByHand(t *testing.T) {
	a := New(Entry[string]{"b", "1"}, Entry[string]{"a", "2"}, Entry[string]{"b", ""}, Entry[string]{"b", "3"})
	if s := written(a); s != "a:2 b:3 " || a.Len() != 2 {
		t.Errorf("P17.1: New: %s, %d", s, a.Len())
	}
	a.Put("", "4")
	a.Put("a", "")
	if s := written(a); s != ":4 a: b:3 " || a.Len() != 3 {
		t.Errorf("P17.1: Put: %s, %d", s, a.Len())
	}
	for _, c := range []struct {
		key, v string
		ok     bool
	}{{"", "4", true}, {"a", "", true}, {"b", "3", true}, {"c", "", false}, {"b\x00", "", false}, {"\x00", "", false}} {
		if v, ok := a.Get(c.key); v != c.v || ok != c.ok {
			t.Errorf("P17.1: Get of %q: %q, %t", c.key, v, ok)
		}
	}
	if a.Del("c") || a.Len() != 3 {
		t.Errorf("P17.1: Del of none: %d left", a.Len())
	}
	if !a.Del("a") || a.Del("a") || a.Len() != 2 {
		t.Errorf("P17.1: Del of one, and once more: %d left", a.Len())
	}
	if v, ok := a.Get("a"); v != "" || ok {
		t.Errorf("P17.1: Get of one that is gone: %q, %t", v, ok)
	}
	if !a.Del("") || !a.Del("b") || a.Len() != 0 || written(a) != "" {
		t.Errorf("P17.1: Del of all: %s", written(a))
	}
	a.Put("b", "5")
	if s := written(a); s != "b:5 " {
		t.Errorf("P17.1: Put behind Del of all: %s", s)
	}
	if n := New[int](); n == nil || n.Len() != 0 {
		t.Errorf("P17.1: New of nothing: %v", n)
	}
}

// P17.1: a copy goes on apart, both ways, and so does a copy of it.
func TestCopyApart(t *testing.T) {
	a := New(Entry[int]{"a", 1}, Entry[int]{"b", 2})
	b := a.Copy()
	c := b.Copy()
	a.Put("a", 3)
	b.Del("b")
	c.Put("c", 4)
	if written(a) != "a:3 b:2 " || written(b) != "a:1 " || written(c) != "a:1 b:2 c:4 " {
		t.Errorf("P17.1: Copy: %s, %s, %s", written(a), written(b), written(c))
	}
}

// P17.1, P17.3: a nil table has nothing, and takes nothing.
func TestNil(t *testing.T) {
	var none *Table[int]
	none.Put("a", 1)
	if v, ok := none.Get("a"); v != 0 || ok || none.Len() != 0 || none.Del("a") {
		t.Errorf("P17.1: of nil: %d, %t, %d", v, ok, none.Len())
	}
	if l := append(told(none.All()), told(none.From(""))...); len(l) != 0 {
		t.Errorf("P17.2: of nil: %v", l)
	}
	for name, c := range map[string]*Table[int]{"Copy": none.Copy(), "Apply": Apply(none, nil)} {
		if c == nil || c.Len() != 0 {
			t.Fatalf("P17.3: %s of nil: %v", name, c)
		}
		c.Put("a", 1)
		if c.Len() != 1 || none.Len() != 0 {
			t.Errorf("P17.3: %s of nil is no table of its own", name)
		}
	}
	one := New(Entry[int]{"a", 1})
	if l := Diff(none, one); !slices.Equal(l, []Change[int]{{"a", 1, false}}) {
		t.Errorf("P17.3: Diff of nil and one: %v", l)
	}
	if l := Diff(one, none); !slices.Equal(l, []Change[int]{{"a", 0, true}}) {
		t.Errorf("P17.3: Diff of one and nil: %v", l)
	}
	if l := Diff(none, none); len(l) != 0 {
		t.Errorf("P17.3: Diff of nil and nil: %v", l)
	}
	if c := Apply(none, []Change[int]{{"a", 1, false}, {"b", 2, false}, {"a", 3, true}}); written(c) != "b:2 " {
		t.Errorf("P17.3: Apply of nil: %s", written(c))
	}
}

// P17.2: keys rise byte by byte, whatever letters they are.
func TestStrangeKeys(t *testing.T) {
	keys := strange()
	sorted := slices.SortedFunc(slices.Values(keys), func(a, b string) int {
		if a == b {
			return 0
		}
		return map[bool]int{true: -1, false: 1}[ahead(a, b)]
	})
	a := New[int]()
	for i, key := range keys {
		a.Put(key, i)
	}
	var got []string
	for key, v := range a.All() {
		got = append(got, key)
		if keys[v] != key {
			t.Errorf("P17.2: All: %q has %d", key, v)
		}
	}
	if !slices.Equal(got, sorted) {
		t.Errorf("P17.2: All: %q", got)
	}
	for i, key := range sorted {
		if l := told(a.From(key)); len(l) != len(sorted)-i || l[0].Key != key {
			t.Errorf("P17.2: From %q: %v", key, l)
		}
		if l := told(a.From(key + "\x00")); len(l) > len(sorted)-i || len(l) > 0 && l[0].Key == key {
			t.Errorf("P17.2: From behind %q: %v", key, l)
		}
	}
}

// P17.2: what is told is what there was at the call, however often and whatever is done meanwhile.
func TestAsItWasAtTheCall(t *testing.T) {
	a := New(Entry[int]{"a", 1}, Entry[int]{"b", 2}, Entry[int]{"c", 3})
	all, from := a.All(), a.From("b")
	a.Put("b", 7)
	a.Put("bb", 8)
	a.Del("c")
	for range 2 {
		if l := told(all); !slices.Equal(l, []Entry[int]{{"a", 1}, {"b", 2}, {"c", 3}}) {
			t.Errorf("P17.2: All: %v", l)
		}
		if l := told(from); !slices.Equal(l, []Entry[int]{{"b", 2}, {"c", 3}}) {
			t.Errorf("P17.2: From: %v", l)
		}
	}
	var l []string
	for key := range a.All() {
		for k := range a.From(key) {
			l = append(l, key+k)
		}
		a.Del(key)
		a.Put("d"+key, 1)
		a.Put("A"+key, 1)
	}
	if want := []string{"aa", "ab", "abb", "bb", "bbb", "bda", "bbbb", "bbda", "bbdb"}; !slices.Equal(l, want) {
		t.Errorf("P17.2: nested: %q", l)
	}
	if s := written(a); s != "Aa:1 Ab:1 Abb:1 da:1 db:1 dbb:1 " {
		t.Errorf("P17.2: a table that is written into while it tells: %s", s)
	}
	var none *Table[int]
	if l := told(none.All()); len(l) != 0 {
		t.Errorf("P17.2: All of nil: %v", l)
	}
}

// P17.2: one that stops wanting gets no more, at each place of tables of all sizes.
func TestLeft(t *testing.T) {
	for size := range 20 {
		a := New[int]()
		for i := range size {
			a.Put(fmt.Sprintf("%02d", i), i)
		}
		for first := range size + 1 {
			for wanted := 1; wanted <= size-first; wanted++ {
				calls := 0
				a.From(fmt.Sprintf("%02d", first))(func(key string, v int) bool {
					if v != first+calls {
						t.Errorf("P17.2: From %d: %d", first, v)
					}
					calls++
					return calls < wanted
				})
				if calls != wanted {
					t.Errorf("P17.2: From %d of %d, left at %d: %d calls", first, size, wanted, calls)
				}
			}
		}
		for wanted := 1; wanted <= size; wanted++ {
			calls := 0
			for range a.All() {
				if calls++; calls == wanted {
					break
				}
			}
			if calls != wanted {
				t.Errorf("P17.2: All of %d, left at %d: %d calls", size, wanted, calls)
			}
		}
	}
}

// P17.3: changes by hand.
func TestDiffByHand(t *testing.T) {
	a := New(Entry[string]{"a", "1"}, Entry[string]{"c", "2"}, Entry[string]{"d", ""}, Entry[string]{"e", "4"}, Entry[string]{"z", "5"})
	b := New(Entry[string]{"", ""}, Entry[string]{"b", "1"}, Entry[string]{"c", "2"}, Entry[string]{"d", "3"}, Entry[string]{"e", ""}, Entry[string]{"f", "6"})
	want := []Change[string]{{"", "", false}, {"a", "", true}, {"b", "1", false}, {"d", "3", false}, {"e", "", false}, {"f", "6", false}, {"z", "", true}}
	if l := Diff(a, b); !slices.Equal(l, want) {
		t.Errorf("P17.3: Diff: %v", l)
	}
	back := []Change[string]{{"", "", true}, {"a", "1", false}, {"b", "", true}, {"d", "", false}, {"e", "4", false}, {"f", "", true}, {"z", "5", false}}
	if l := Diff(b, a); !slices.Equal(l, back) {
		t.Errorf("P17.3: Diff back: %v", l)
	}
	if l := Diff(a, a); len(l) != 0 {
		t.Errorf("P17.4: Diff of one and itself: %v", l)
	}
	if c := Apply(a, want); written(c) != written(b) || c.Len() != 6 {
		t.Errorf("P17.4: Apply: %s", written(c))
	}
}

// P17.3: changes are done in order, into a copy.
func TestApplyInOrder(t *testing.T) {
	a := New(Entry[int]{"a", 1})
	l := []Change[int]{{"a", 9, true}, {"b", 2, false}, {"b", 3, false}, {"c", 4, false}, {"c", 0, true}, {"d", 0, true}, {"d", 5, false}}
	b := Apply(a, l)
	if written(b) != "b:3 d:5 " || written(a) != "a:1 " {
		t.Errorf("P17.3: Apply: %s of %s", written(b), written(a))
	}
	b.Put("a", 6)
	if c := Apply(a, nil); c == a || written(c) != "a:1 " {
		t.Errorf("P17.3: Apply of no changes: %s", written(c))
	}
}

// thing is a thing of several parts.
type thing struct {
	n int
	s string
	p *int
}

// P17.1, P17.3: tables of other things.
func TestThings(t *testing.T) {
	one, two := new(int), new(int)
	a := New(Entry[thing]{"a", thing{1, "x", one}}, Entry[thing]{"b", thing{1, "x", one}})
	b := New(Entry[thing]{"a", thing{1, "x", two}}, Entry[thing]{"b", thing{1, "x", one}})
	if l := Diff(a, b); len(l) != 1 || l[0] != (Change[thing]{"a", thing{1, "x", two}, false}) {
		t.Errorf("P17.3: Diff of parts: %v", l)
	}
	if v, ok := a.Get("c"); v != (thing{}) || ok {
		t.Errorf("P17.1: Get of parts: %v", v)
	}
	e := New(Entry[struct{}]{"a", struct{}{}}, Entry[struct{}]{"b", struct{}{}})
	if l := Diff(e, New(Entry[struct{}]{"b", struct{}{}})); len(l) != 1 || !l[0].Gone || e.Len() != 2 {
		t.Errorf("P17.3: Diff of nothings: %v", l)
	}
	p := New(Entry[*int]{"a", nil})
	if v, ok := p.Get("a"); v != nil || !ok {
		t.Errorf("P17.1: Get of a nil thing: %v, %t", v, ok)
	}
}

// R1: things that can't be compared, or are never what they are, make no call panic, and are put.
func TestThingsBeyondCompare(t *testing.T) {
	a := New(Entry[any]{"a", []int{1}}, Entry[any]{"b", 1}, Entry[any]{"c", math.NaN()}, Entry[any]{"d", nil}, Entry[any]{"e", map[int]int{}})
	b := a.Copy()
	b.Put("b", int64(1))
	l := Diff(a, b)
	var keys []string
	for _, c := range l {
		keys = append(keys, c.Key)
		if c.Gone {
			t.Errorf("P17.3: Diff: %v", c)
		}
	}
	if !slices.Equal(keys, []string{"a", "b", "c", "e"}) {
		t.Errorf("R1: Diff: %q", keys)
	}
	if c := Apply(a, l); written(c) != written(b) {
		t.Errorf("P17.4: Apply: %s", written(c))
	}
	f := New(Entry[float64]{"a", math.Inf(1)}, Entry[float64]{"b", math.Copysign(0, -1)})
	if l := Diff(f, New(Entry[float64]{"a", math.Inf(1)}, Entry[float64]{"b", 0})); len(l) != 0 {
		t.Errorf("P17.4: Diff: %v", l)
	}
}

// R4: lists that are handed in stay as they are, and lists that are told are the caller's.
func TestListsApart(t *testing.T) {
	room := []Entry[int]{{"b", 1}, {"a", 2}, {"b", 3}, {"x", 9}, {"y", 9}}
	keep := slices.Clone(room)
	a := New(room[:3]...)
	if !slices.Equal(room, keep) {
		t.Errorf("R4: New writes into its list: %v", room)
	}
	room[0], room[1] = Entry[int]{"q", 8}, Entry[int]{"q", 8}
	if written(a) != "a:2 b:3 " {
		t.Errorf("R4: New keeps its list: %s", written(a))
	}
	changes := []Change[int]{{"c", 1, false}, {"b", 2, true}, {"a", 5, false}, {"z", 1, false}}
	held := slices.Clone(changes)
	b := Apply(a, changes[:3])
	if !slices.Equal(changes, held) || written(b) != "a:5 c:1 " {
		t.Errorf("R4: Apply: %v, %s", changes, written(b))
	}
	l, m := Diff(a, b), Diff(a, b)
	for i := range l {
		l[i] = Change[int]{"!", 0, true}
	}
	_ = append(l, Change[int]{})
	if !slices.Equal(m, Diff(a, b)) || written(a) != "a:2 b:3 " || written(b) != "a:5 c:1 " {
		t.Errorf("R4: Diff's list is kept: %v", m)
	}
}

// R1: many keys, in rising, falling and no order, are found and gone over soon, and go again.
func TestMany(t *testing.T) {
	const many = 60000
	order := rand.New(rand.NewSource(17)).Perm(many)
	for name, at := range map[string]func(int) int{"rising": func(i int) int { return i }, "falling": func(i int) int { return many - 1 - i }, "mixed": func(i int) int { return order[i] }} {
		a := New[int]()
		for i := range many {
			a.Put(fmt.Sprintf("%08d", at(i)), at(i))
		}
		even(t, name, a.tree())
		if deep := depth(a.tree()); a.Len() != many || deep > 3*bits.Len(many) {
			t.Errorf("R1: %s: %d keys, %d deep", name, a.Len(), deep)
		}
		next := 0
		for key, v := range a.All() {
			if v != next || key != fmt.Sprintf("%08d", next) {
				t.Fatalf("P17.2: %s: %q, %d", name, key, v)
			}
			next++
		}
		whole := a.Copy()
		for i := range many {
			if at(i)%10 > 0 && !a.Del(fmt.Sprintf("%08d", at(i))) {
				t.Fatalf("P17.1: %s: %d isn't there", name, at(i))
			}
		}
		even(t, name, a.tree())
		if l := Diff(whole, a); a.Len() != many/10 || whole.Len() != many || len(l) != many-many/10 {
			t.Errorf("P17.3: %s: %d, %d keys, %d changes", name, a.Len(), whole.Len(), len(l))
		}
	}
}

// depth answers how many nodes stand above one another.
func depth[V comparable](n *node[V]) int {
	if n == nil {
		return 0
	}
	return 1 + max(depth(n.ahead), depth(n.behind))
}
