package decode

import (
	"math"
	"strconv"
	"strings"

	"headgate/api"
	"headgate/value"
)

// A comma parts fields; a backslash takes the byte behind it with it.
const (
	comma     = ','
	backslash = '\\'
)

// What fields say that aren't numbers or texts.
const (
	null = `\N`
	yes  = "true"
	no   = "false"
)

// Split answers the fields of the record b.
func Split[T ~string | ~[]byte](b T) []T { return upTo(math.MaxInt, b) }

// upTo answers the first fields of b, at most most of them, each as new memory.
func upTo[T ~string | ~[]byte](most int, b T) []T {
	var l []T
	next := fields(b)
	for field, ok := next(); ok && len(l) < most; field, ok = next() {
		l = append(l, T(string(field)))
	}
	return l
}

// fields answers a function that tells, each time it is called, the next field of b, lying in b, and whether there is one.
func fields[T ~string | ~[]byte](b T) func() (T, bool) {
	from := 0
	return func() (T, bool) {
		if from > len(b) {
			var none T
			return none, false
		}
		to := from
		for to < len(b) && b[to] != comma {
			if b[to] == backslash {
				to++
			}
			to++
		}
		// The last backslash may have nothing behind it to take.
		to = min(to, len(b))
		field := b[from:to]
		from = to + 1
		return field, true
	}
}

// says answers the value that a field of a column of kind k says, and whether it says one.
func says(field string, k int) (api.Value, bool) {
	if field == null {
		return api.Value{}, true
	}
	switch k {
	case api.KInt:
		n, err := strconv.ParseInt(field, 10, 64)
		// ParseInt takes a + too, and 0s that need not be; such a field isn't what its int is written as.
		return value.Int(n), err == nil && strconv.FormatInt(n, 10) == field
	case api.KBool:
		return value.Bool(field == yes), field == yes || field == no
	}
	return text(field)
}

// text answers the text that a field says, and whether it says one.
func text(field string) (api.Value, bool) {
	var b []byte
	for i := 0; i < len(field); i++ {
		if field[i] == backslash {
			i++
			if i == len(field) || field[i] != comma && field[i] != backslash {
				return api.Value{}, false
			}
		}
		b = append(b, field[i])
	}
	return value.Text(string(b)), len(b) <= api.MaxText
}

// written answers the field that says v, a right value.
func written(v api.Value) string {
	switch v.Kind {
	case api.KInt:
		return strconv.FormatInt(v.N, 10)
	case api.KBool:
		if v.N == 1 {
			return yes
		}
		return no
	case api.KText:
		// Backslashes first, as those ahead of commas are to stay as they are.
		return strings.ReplaceAll(strings.ReplaceAll(v.S, `\`, `\\`), ",", `\,`)
	}
	return null
}
