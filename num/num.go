// Package num is layer 1: whole numbers of 64 bits that don't go round, and exact sums of them.
package num

import (
	"math"
	"math/bits"

	"headgate/api"
)

// Do answers what the operation op, one of EAdd to ERem, makes of a and b.
func Do(op int, a, b int64) (int64, api.Errno) {
	switch op {
	case api.EAdd:
		return whole(Add(of(a), b))
	case api.ESub:
		return whole(Both(of(a), negative(of(b))))
	case api.EMul:
		return times(a, b)
	case api.EDiv:
		return quotient(a, b)
	case api.ERem:
		return remainder(a, b)
	}
	return 0, api.ErrArg
}

// Floor answers a by b, rounded down, for a b of at least 1.
func Floor(a, b int64) (int64, api.Errno) {
	if b < 1 {
		return 0, api.ErrArg
	}
	n := a / b
	// Go rounds toward 0, which is too high where a is below 0 and b leaves a rest.
	if a%b < 0 {
		n--
	}
	return n, api.OK
}

// Add answers s and n together, modulo 2^128.
func Add(s api.Sum, n int64) api.Sum { return Both(s, of(n)) }

// Both answers s and t together, modulo 2^128.
func Both(s, t api.Sum) api.Sum {
	lo, carry := bits.Add64(s.Lo, t.Lo, 0)
	return api.Sum{Hi: s.Hi + t.Hi + int64(carry), Lo: lo}
}

// Int answers s as a number, and whether it is one of 64 bits.
func Int(s api.Sum) (int64, bool) {
	n := int64(s.Lo)
	if of(n) != s {
		return 0, false
	}
	return n, true
}

// Least answers the least one of a and all of l.
func Least[T int | int64](a T, l ...T) T {
	for _, b := range l {
		if b < a {
			a = b
		}
	}
	return a
}

// of answers n as a sum; the shift spreads n's sign over all of Hi.
func of(n int64) api.Sum { return api.Sum{Hi: n >> 63, Lo: uint64(n)} }

func negative(s api.Sum) api.Sum { return Add(api.Sum{Hi: ^s.Hi, Lo: ^s.Lo}, 1) }

func whole(s api.Sum) (int64, api.Errno) {
	n, ok := Int(s)
	if !ok {
		return 0, api.ErrNumOver
	}
	return n, api.OK
}

func times(a, b int64) (int64, api.Errno) {
	hi, lo := bits.Mul64(size(a), size(b))
	// Hi of a sum has room for the sign: hi is at most 2^62.
	s := api.Sum{Hi: int64(hi), Lo: lo}
	if (a < 0) != (b < 0) {
		s = negative(s)
	}
	return whole(s)
}

func quotient(a, b int64) (int64, api.Errno) {
	switch {
	case b == 0:
		return 0, api.ErrNumZero
	case a == math.MinInt64 && b == -1:
		// The only quotient that Go lets go round.
		return 0, api.ErrNumOver
	}
	return a / b, api.OK
}

func remainder(a, b int64) (int64, api.Errno) {
	if b == 0 {
		return 0, api.ErrNumZero
	}
	return a % b, api.OK
}

// size answers how far n is from 0; that of -2^63 has room without a sign alone.
func size(n int64) uint64 {
	if n < 0 {
		return -uint64(n)
	}
	return uint64(n)
}
