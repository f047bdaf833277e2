package metalog

import (
	"cmp"
	"iter"
	"slices"
)

// A table holds values by numbers.
type table[V any] struct {
	// The rows rise, so that the last one and those up to a number are at hand.
	rows []row[V]
}

// A row is what stands in a table by one number.
type row[V any] struct {
	id int64
	v  V
}

// find answers the place of the number id, or the one where it would stand, and whether it stands there.
func (t *table[V]) find(id int64) (int, bool) {
	return slices.BinarySearchFunc(t.rows, id, func(r row[V], id int64) int { return cmp.Compare(r.id, id) })
}

// get answers the value of the number id, and whether there is one.
func (t *table[V]) get(id int64) (V, bool) {
	at, ok := t.find(id)
	if !ok {
		var none V
		return none, false
	}
	return t.rows[at].v, true
}

// set lays v by the number id, in the place of what stood there.
func (t *table[V]) set(id int64, v V) {
	at, ok := t.find(id)
	if !ok {
		t.rows = slices.Insert(t.rows, at, row[V]{id: id})
	}
	t.rows[at].v = v
}

// len answers how many numbers there are.
func (t *table[V]) len() int { return len(t.rows) }

// last answers the greatest number, and whether there is one.
func (t *table[V]) last() (int64, bool) {
	if t.len() == 0 {
		return 0, false
	}
	return t.rows[t.len()-1].id, true
}

// upTo answers how many numbers up to id there are.
func (t *table[V]) upTo(id int64) int {
	at, ok := t.find(id)
	if ok {
		at++
	}
	return at
}

// first answers a table of the first n rows alone, which later changes of t don't touch.
func (t *table[V]) first(n int) *table[V] { return &table[V]{slices.Clone(t.rows[:n])} }

// all walks over the numbers and values, rising.
func (t *table[V]) all() iter.Seq2[int64, V] {
	return func(yield func(int64, V) bool) {
		for _, r := range t.rows {
			if !yield(r.id, r.v) {
				return
			}
		}
	}
}

// turn lays what one makes of each number's value in its place, and takes away those numbers for which it answers false.
func (t *table[V]) turn(one func(int64, V) (V, bool)) {
	var kept []row[V]
	for id, v := range t.all() {
		if v, ok := one(id, v); ok {
			kept = append(kept, row[V]{id, v})
		}
	}
	t.rows = kept
}
