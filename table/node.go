package table

// node is a key of a tree, what is there, and the keys ahead of it and behind it; a nil one is a tree of nothing.
// No node is written into once it stands in a tree: a change makes the nodes on the way to it anew, so that
// a walk and a copy may hold on to a tree while its table goes on.
type node[V comparable] struct {
	key    string
	val    V
	size   int
	ahead  *node[V]
	behind *node[V]
}

// A tree is even if neither side of a node has more than heavy times the keys of the other one; a side is turned
// twice if its inner part has at least double the keys of its outer one. With these two numbers a turn makes a tree
// even again that one key more or less made uneven.
const (
	heavy  = 3
	double = 2
)

// count answers how many keys there are.
func (n *node[V]) count() int {
	if n == nil {
		return 0
	}
	return n.size
}

// get answers what is there, and whether something is.
func (n *node[V]) get(key string) (v V, ok bool) {
	for n != nil && n.key != key {
		if key < n.key {
			n = n.ahead
		} else {
			n = n.behind
		}
	}
	if n == nil {
		return v, false
	}
	return n.val, true
}

// with answers a node of the same key and thing between two other sides.
func (n *node[V]) with(ahead, behind *node[V]) *node[V] {
	return &node[V]{n.key, n.val, ahead.count() + 1 + behind.count(), ahead, behind}
}

// even answers a tree of a node's key between two sides, one of which may have a key too many.
func (n *node[V]) even(ahead, behind *node[V]) *node[V] {
	a, b := ahead.count(), behind.count()
	switch {
	case a+b <= 1:
		return n.with(ahead, behind)
	case b > heavy*a:
		return n.turnAhead(ahead, behind)
	case a > heavy*b:
		return n.turnBehind(ahead, behind)
	}
	return n.with(ahead, behind)
}

// turnAhead makes the side ahead greater by keys of the one behind.
func (n *node[V]) turnAhead(ahead, behind *node[V]) *node[V] {
	inner, outer := behind.ahead, behind.behind
	if inner.count() < double*outer.count() {
		return behind.with(n.with(ahead, inner), outer)
	}
	return inner.with(n.with(ahead, inner.ahead), behind.with(inner.behind, outer))
}

// turnBehind makes the side behind greater by keys of the one ahead.
func (n *node[V]) turnBehind(ahead, behind *node[V]) *node[V] {
	outer, inner := ahead.ahead, ahead.behind
	if inner.count() < double*outer.count() {
		return ahead.with(outer, n.with(inner, behind))
	}
	return inner.with(ahead.with(outer, inner.ahead), n.with(inner.behind, behind))
}

// put answers a tree in which the key has v.
func (n *node[V]) put(key string, v V) *node[V] {
	switch {
	case n == nil:
		return &node[V]{key: key, val: v, size: 1}
	case key < n.key:
		return n.even(n.ahead.put(key, v), n.behind)
	case n.key < key:
		return n.even(n.ahead, n.behind.put(key, v))
	}
	return &node[V]{key, v, n.size, n.ahead, n.behind}
}

// del answers a tree without the key, which must be there.
func (n *node[V]) del(key string) *node[V] {
	switch {
	case key < n.key:
		return n.even(n.ahead.del(key), n.behind)
	case n.key < key:
		return n.even(n.ahead, n.behind.del(key))
	}
	return join(n.ahead, n.behind)
}

// join answers a tree of both sides of a key that goes.
func join[V comparable](ahead, behind *node[V]) *node[V] {
	switch {
	case ahead == nil:
		return behind
	case behind == nil:
		return ahead
	case ahead.size > behind.size:
		last := ahead.last()
		return last.even(ahead.del(last.key), behind)
	}
	first := behind.first()
	return first.even(ahead, behind.del(first.key))
}

// first answers the node of the least key.
func (n *node[V]) first() *node[V] {
	for n.ahead != nil {
		n = n.ahead
	}
	return n
}

// last answers the node of the greatest key.
func (n *node[V]) last() *node[V] {
	for n.behind != nil {
		n = n.behind
	}
	return n
}

// walk yields the keys and what is there, rising, and tells whether more is wanted.
func (n *node[V]) walk(yield func(string, V) bool) bool {
	return n == nil || n.ahead.walk(yield) && yield(n.key, n.val) && n.behind.walk(yield)
}

// walkFrom is walk of those keys that are not ahead of key.
func (n *node[V]) walkFrom(key string, yield func(string, V) bool) bool {
	if n == nil {
		return true
	}
	if n.key < key {
		return n.behind.walkFrom(key, yield)
	}
	return n.ahead.walkFrom(key, yield) && yield(n.key, n.val) && n.behind.walk(yield)
}
