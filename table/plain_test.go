package table

import (
	"math/rand"
	"slices"
	"strings"
	"testing"
)

// This file does the chapter's words plainly: a table is a list of entries in no order, searched from its beginning.

// plain is a table by the chapter's words.
type plain []Entry[int]

// find answers the place of a key, or -1.
func (p plain) find(key string) int {
	return slices.IndexFunc(p, func(e Entry[int]) bool { return e.Key == key })
}

// put answers the table in which the key has v.
func (p plain) put(key string, v int) plain {
	if i := p.find(key); i >= 0 {
		l := slices.Clone(p)
		l[i].Val = v
		return l
	}
	return append(slices.Clone(p), Entry[int]{key, v})
}

// del answers the table without the key.
func (p plain) del(key string) plain {
	return slices.DeleteFunc(slices.Clone(p), func(e Entry[int]) bool { return e.Key == key })
}

// ahead tells whether a stands ahead of b, byte by byte.
func ahead(a, b string) bool {
	for i := 0; i < len(a) && i < len(b); i++ {
		if a[i] != b[i] {
			return a[i] < b[i]
		}
	}
	return len(a) < len(b)
}

// from answers the entries not ahead of a key, each time the least of those that are left.
func (p plain) from(key string) []Entry[int] {
	left := slices.DeleteFunc(slices.Clone(p), func(e Entry[int]) bool { return ahead(e.Key, key) })
	var l []Entry[int]
	for len(left) > 0 {
		least := 0
		for i := range left {
			if ahead(left[i].Key, left[least].Key) {
				least = i
			}
		}
		l = append(l, left[least])
		left = slices.Delete(left, least, least+1)
	}
	return l
}

// diffPlain answers the changes from a to b.
func diffPlain(a, b plain) []Change[int] {
	keys := a
	for _, e := range b {
		keys = keys.put(e.Key, e.Val)
	}
	var l []Change[int]
	for _, e := range keys.from("") {
		i, j := a.find(e.Key), b.find(e.Key)
		switch {
		case j < 0:
			l = append(l, Change[int]{e.Key, 0, true})
		case i < 0 || a[i].Val != b[j].Val:
			l = append(l, Change[int]{e.Key, b[j].Val, false})
		}
	}
	return l
}

// applyPlain answers the table in which the changes were done.
func applyPlain(p plain, l []Change[int]) plain {
	for _, c := range l {
		if c.Gone {
			p = p.del(c.Key)
		} else {
			p = p.put(c.Key, c.Val)
		}
	}
	return p
}

// told answers what an iterator of a table tells.
func told[V comparable](seq func(func(string, V) bool)) []Entry[V] {
	var l []Entry[V]
	for key, v := range seq {
		l = append(l, Entry[V]{key, v})
	}
	return l
}

// holds tells a test's fault where a table isn't what it ought to be, asked in every way.
func holds(t *testing.T, what string, got *Table[int], want plain, keys []string) {
	t.Helper()
	if got.Len() != len(want) {
		t.Fatalf("P17.1: Len %s: %d, not %d", what, got.Len(), len(want))
	}
	if l := told(got.All()); !slices.Equal(l, want.from("")) {
		t.Fatalf("P17.2: All %s: %v, not %v", what, l, want.from(""))
	}
	for _, key := range keys {
		v, ok := got.Get(key)
		i := want.find(key)
		if ok != (i >= 0) || ok && v != want[i].Val || !ok && v != 0 {
			t.Fatalf("P17.1: Get %s of %q: %d, %t", what, key, v, ok)
		}
		if l := told(got.From(key)); !slices.Equal(l, want.from(key)) {
			t.Fatalf("P17.2: From %s of %q: %v, not %v", what, key, l, want.from(key))
		}
	}
	even(t, what, got.tree())
}

// even tells a test's fault where a tree isn't in order, or grows deep: then a walk would end late, or never.
func even[V comparable](t *testing.T, what string, n *node[V]) {
	t.Helper()
	if n == nil {
		return
	}
	a, b := n.ahead.count(), n.behind.count()
	if n.size != a+1+b {
		t.Fatalf("P17.1: Len %s: a tree of %d and %d keys counts %d", what, a, b, n.size)
	}
	if n.ahead != nil && n.ahead.last().key >= n.key || n.behind != nil && n.behind.first().key <= n.key {
		t.Fatalf("P17.2: All %s: %q doesn't rise", what, n.key)
	}
	if a+b > 1 && (a > 3*b || b > 3*a) {
		t.Fatalf("R1: %s: a tree of %d and %d keys isn't even", what, a, b)
	}
	even(t, what, n.ahead)
	even(t, what, n.behind)
}

// strange answers keys at the edges of their order.
func strange() []string {
	return []string{"", "\x00", "\x00\x00", "\x00a", "a", "a\x00", "a\x00b", "aa", "ab", "b", "A", "Z", "z", "\x7f", "\x80", "\xc3", "\xc3\xa9", "\xe9", "\xff", "\xff\x00", "\xff\xff", "10", "9", strings.Repeat("a", 300), strings.Repeat("a", 300) + "b"}
}

// P17.1, P17.2: all ways to do five things with three keys, one behind the other.
func TestAllShortWays(t *testing.T) {
	keys := []string{"", "a", "a\x00"}
	ask := append(keys, "\x00", "b")
	var try func(got *Table[int], want plain, left int)
	try = func(got *Table[int], want plain, left int) {
		holds(t, "of a short way", got, want, ask)
		if left == 0 {
			return
		}
		for i, key := range keys {
			for v := range 2 {
				next := got.Copy()
				next.Put(key, v)
				try(next, want.put(key, v), left-1)
			}
			next := got.Copy()
			if there := next.Del(key); there != (want.find(key) >= 0) {
				t.Fatalf("P17.1: Del of %q, key %d: %t", key, i, there)
			}
			try(next, want.del(key), left-1)
		}
		holds(t, "of a short way, behind its copies", got, want, nil)
	}
	try(New[int](), nil, 4)
}

// P17.1: keys put in all orders, and taken out one, two and three at a time.
func TestAllOrders(t *testing.T) {
	keys := []string{"a", "b", "c", "d", "e", "f", "g"}
	var put func(got *Table[int], left []string)
	var del func(got *Table[int], deep int)
	del = func(got *Table[int], deep int) {
		even(t, "of an order", got.tree())
		for _, key := range keys {
			next := got.Copy()
			if _, ok := got.Get(key); ok != next.Del(key) {
				t.Fatalf("P17.1: Del of %q: %t", key, !ok)
			}
			if next.Len() < got.Len() && deep > 1 {
				del(next, deep-1)
			}
		}
	}
	put = func(got *Table[int], left []string) {
		even(t, "of an order", got.tree())
		if len(left) == 0 {
			if s := told(got.All()); len(s) != len(keys) {
				t.Fatalf("P17.2: All of %v", s)
			}
			del(got, 3)
			return
		}
		for i, key := range left {
			next := got.Copy()
			next.Put(key, i)
			put(next, slices.Delete(slices.Clone(left), i, i+1))
		}
	}
	put(New[int](), keys)
}

// P17.1 to P17.4: all tables of three keys and two things against each other.
func TestAllPairs(t *testing.T) {
	keys := []string{"", "b", "b\xff"}
	var all []plain
	for n := range 27 {
		var p plain
		for _, key := range keys {
			if n%3 > 0 {
				p = p.put(key, n%3-1)
			}
			n /= 3
		}
		all = append(all, p)
	}
	for _, p := range all {
		for _, q := range all {
			a, b := New(p...), New(q...)
			l := Diff(a, b)
			if !slices.Equal(l, diffPlain(p, q)) {
				t.Fatalf("P17.3: Diff of %v and %v: %v", p, q, l)
			}
			holds(t, "Apply of Diff (P17.4)", Apply(a, l), q, keys)
			holds(t, "Diff's first", a, p, nil)
			holds(t, "Diff's second", b, q, nil)
			if l := Diff(Apply(a, l), b); len(l) != 0 {
				t.Fatalf("P17.4: Diff of two that have the same: %v", l)
			}
		}
	}
}

// P17.3: all lists of up to four changes, done in order.
func TestAllChanges(t *testing.T) {
	var changes []Change[int]
	for _, key := range []string{"a", "b"} {
		for v := range 2 {
			changes = append(changes, Change[int]{key, v, false}, Change[int]{key, v, true})
		}
	}
	var try func(l []Change[int])
	try = func(l []Change[int]) {
		for _, p := range []plain{nil, {{"b", 5}, {"a", 4}, {"c", 6}}} {
			holds(t, "Apply (P17.3)", Apply(New(p...), l), applyPlain(p, l), []string{"a", "b"})
		}
		if len(l) == 4 {
			return
		}
		for _, c := range changes {
			try(append(l[:len(l):len(l)], c))
		}
	}
	try(nil)
}

// mixed is a table, what it ought to be, and an iterator of it with what that ought to tell.
type mixed struct {
	got  *Table[int]
	want plain
	seq  func(func(string, int) bool)
	tell []Entry[int]
}

// step does something with one of several tables.
func (m *mixed) step(t *testing.T, r *rand.Rand, all []*mixed, keys []string) {
	key, v, other := keys[r.Intn(len(keys))], r.Intn(3), all[r.Intn(len(all))]
	switch r.Intn(9) {
	case 0, 1, 2:
		m.got.Put(key, v)
		m.want = m.want.put(key, v)
	case 3, 4:
		if there := m.got.Del(key); there != (m.want.find(key) >= 0) {
			t.Fatalf("P17.1: Del of %q: %t", key, there)
		}
		m.want = m.want.del(key)
	case 5:
		other.got, other.want = m.got.Copy(), m.want
	case 6:
		m.seq, m.tell = m.got.From(key), m.want.from(key)
	case 7:
		l := Diff(m.got, other.got)
		if !slices.Equal(l, diffPlain(m.want, other.want)) {
			t.Fatalf("P17.3: Diff of %v and %v: %v", m.want, other.want, l)
		}
		l = slices.DeleteFunc(l, func(Change[int]) bool { return r.Intn(4) == 0 })
		m.got, m.want = Apply(m.got, l), applyPlain(m.want, l)
	case 8:
		m.seq, m.tell = m.got.All(), m.want.from("")
	}
}

// P17.1 to P17.3: several tables, their copies and their iterators, done with at hazard.
func TestMixed(t *testing.T) {
	for seed := range int64(120) {
		r := rand.New(rand.NewSource(seed))
		keys := strange()[:1+r.Intn(len(strange()))]
		var all []*mixed
		for range 4 {
			all = append(all, &mixed{got: New[int]()})
		}
		for range 150 {
			m := all[r.Intn(len(all))]
			m.step(t, r, all, keys)
			if m.seq != nil && !slices.Equal(told(m.seq), m.tell) {
				t.Fatalf("P17.2: an iterator tells %v, not %v", told(m.seq), m.tell)
			}
			if r.Intn(8) == 0 {
				for _, m := range all {
					holds(t, "of several", m.got, m.want, keys)
				}
			}
		}
	}
}
