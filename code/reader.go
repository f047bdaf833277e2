package code

import (
	"headgate/api"
	"headgate/value"
)

// Unrows answers the right rows of which b are the bytes.
func Unrows(b []byte) ([][]api.Value, api.Errno) { return whole(b, row) }

// Uncols answers the columns of which b are the bytes.
func Uncols(b []byte) ([]api.Column, api.Errno) { return whole(b, col) }

// Unpairs answers the pairs of which b are the bytes.
func Unpairs(b []byte) ([]api.Pair, api.Errno) { return whole(b, pair) }

// Unnums answers the ints of which b are the bytes.
func Unnums(b []byte) ([]int64, api.Errno) { return whole(b, integer) }

// A reader holds the bytes that are still to be read; where they have another form than asked, it gives up by a panic.
type reader struct{ rest []byte }

// whole answers the list of which b, to its end, are the bytes; one reads an item.
func whole[T any](b []byte, one func(*reader) T) (l []T, e api.Errno) {
	defer func() {
		if recover() != nil {
			l, e = nil, api.ErrCodeForm
		}
	}()
	r := &reader{b}
	r.must(len(b) <= api.MaxFile)
	l = items(r, api.MaxFile, one)
	r.must(len(r.rest) == 0)
	return l, api.OK
}

// items reads a list of at most most items; one of more is given up ahead of them, however many it claims.
func items[T any](r *reader, most uint64, one func(*reader) T) []T {
	n := r.number()
	r.must(n <= most)
	var l []T
	for range n {
		l = append(l, one(r))
	}
	return l
}

func row(r *reader) []api.Value { return items(r, api.MaxCols, oneValue) }

func col(r *reader) api.Column {
	name := r.text()
	return api.Column{Name: name, Kind: int(r.single())}
}

func pair(r *reader) api.Pair {
	key := r.text()
	return api.Pair{Key: key, Val: r.text()}
}

func integer(r *reader) int64 {
	n := r.number()
	// -(n & 1) is all ones where n is odd, which is of an int below 0.
	return int64(n>>1 ^ -(n & 1))
}

// oneValue reads a right value.
func oneValue(r *reader) api.Value {
	v := api.Value{Kind: int(r.single())}
	switch v.Kind {
	case api.KInt:
		v.N = integer(r)
	case api.KBool:
		v.N = int64(r.single())
	case api.KText:
		v.S = r.text()
	}
	r.must(value.Check(v) == api.OK)
	return v
}

// must gives up unless ok holds.
func (r *reader) must(ok bool) {
	if !ok {
		panic(api.ErrCodeForm)
	}
}

// next reads n bytes.
func (r *reader) next(n uint64) []byte {
	r.must(n <= uint64(len(r.rest)))
	b := r.rest[:n]
	r.rest = r.rest[n:]
	return b
}

func (r *reader) single() byte { return r.next(1)[0] }

func (r *reader) number() uint64 {
	n, size, e := Unnum(r.rest)
	r.must(e == api.OK)
	r.next(uint64(size))
	return n
}

func (r *reader) text() string { return string(r.next(r.number())) }
