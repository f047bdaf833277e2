package table

// Change is a key that has another thing, or is gone.
type Change[V comparable] struct {
	Key  string
	Val  V
	Gone bool
}

// Diff answers the changes from a to b, rising by keys.
func Diff[V comparable](a, b *Table[V]) []Change[V] {
	var l []Change[V]
	old := entries(a)
	for key, v := range b.All() {
		for len(old) > 0 && old[0].Key < key {
			l = append(l, gone(old[0]))
			old = old[1:]
		}
		there := len(old) > 0 && old[0].Key == key
		if !there || !same(old[0].Val, v) {
			l = append(l, Change[V]{Key: key, Val: v})
		}
		if there {
			old = old[1:]
		}
	}
	for _, e := range old {
		l = append(l, gone(e))
	}
	return l
}

// entries answers all that a table has, rising.
func entries[V comparable](t *Table[V]) []Entry[V] {
	l := make([]Entry[V], 0, t.Len())
	for key, v := range t.All() {
		l = append(l, Entry[V]{key, v})
	}
	return l
}

// gone answers the change by which an entry goes.
func gone[V comparable](e Entry[V]) Change[V] {
	return Change[V]{Key: e.Key, Gone: true}
}

// same tells whether two things are one.
func same[V comparable](a, b V) (yes bool) {
	// Things of an interface may hold what can't be compared, as lists: these are never the same.
	defer func() {
		if recover() != nil {
			yes = false
		}
	}()
	return a == b
}

// Apply answers a copy of t in which each change was done, in order.
func Apply[V comparable](t *Table[V], l []Change[V]) *Table[V] {
	done := t.Copy()
	for _, c := range l {
		if c.Gone {
			done.Del(c.Key)
		} else {
			done.Put(c.Key, c.Val)
		}
	}
	return done
}
