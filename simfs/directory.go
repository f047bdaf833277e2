package simfs

import "maps"

// A directory has its entries as they are, those of them that last, and the operations that lie between.
type directory struct {
	base    map[string]*file
	entries map[string]*file
	pending []operation
}

// An operation changes entries; a crash lets it come to nothing, or does it once more on those that last.
type operation func(entries map[string]*file)

// A file is bytes, of which the first ones are safe.
type file struct {
	bytes []byte
	safe  int
}

func newDirectory() *directory {
	return &directory{base: map[string]*file{}, entries: map[string]*file{}}
}

// do does an operation, which doesn't last yet.
func (d *directory) do(op operation) {
	op(d.entries)
	d.pending = append(d.pending, op)
}

// settle lets the first k pending operations last, and the others be undone.
func (d *directory) settle(k int) {
	for _, op := range d.pending[:k] {
		op(d.base)
	}
	if k < len(d.pending) {
		d.entries = maps.Clone(d.base)
	}
	d.pending = nil
}

// cut leaves the safe bytes and k of those behind them, all of them safe.
func (x *file) cut(k int) {
	x.safe += k
	x.bytes = x.bytes[:x.safe]
}
