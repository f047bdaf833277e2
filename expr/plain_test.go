package expr

import (
	"bytes"
	"math/big"
	"regexp"
	"slices"

	"headgate/api"
)

// What the chapter's words make of expressions, done plainly.

func plainNodes(e api.Expr) int {
	n := 1
	for _, kid := range e.Kids {
		n += plainNodes(kid)
	}
	return n
}

// plainDepth answers within how many others an expression of e stands at most.
func plainDepth(e api.Expr) int {
	n := 0
	for _, kid := range e.Kids {
		n = max(n, 1+plainDepth(kid))
	}
	return n
}

var columnName = regexp.MustCompile(`\A[a-z][a-z0-9]{0,15}\z`)

func plainRight(v api.Value) bool {
	switch v.Kind {
	case 0:
		return v.N == 0 && v.S == ""
	case 1:
		return v.S == ""
	case 2:
		return (v.N == 0 || v.N == 1) && v.S == ""
	case 3:
		return v.N == 0 && len(v.S) <= 200
	}
	return false
}

// plainParts answers how many Kids an Op has; -1, if it is none.
func plainParts(op int) int {
	switch op {
	case 1, 2, 3:
		return 0
	case 9, 16, 17, 20:
		return 1
	case 4, 5, 6, 7, 8, 10, 11, 12, 13, 14, 15, 19:
		return 2
	case 18:
		return 3
	}
	return -1
}

func plainFormed(e api.Expr) bool {
	named, valued := e.Name != "", e.V.Kind != 0 || e.V.N != 0 || e.V.S != ""
	switch e.Op {
	case 1:
		named = !columnName.MatchString(e.Name)
	case 2:
		valued = !plainRight(e.V) || e.V.Kind == 0
	case 3:
		named = e.Name != "int" && e.Name != "bool" && e.Name != "text"
	}
	if named || valued || len(e.Kids) != plainParts(e.Op) {
		return false
	}
	for _, kid := range e.Kids {
		if !plainFormed(kid) {
			return false
		}
	}
	return true
}

func plainCheck(e api.Expr) api.Errno {
	if plainNodes(e) > 256 || plainDepth(e) > 16 {
		return 131
	}
	if !plainFormed(e) {
		return 130
	}
	return 0
}

// plainKind answers the kind of a well formed expression over right columns, or the error.
func plainKind(e api.Expr, cols []api.Column) (int, api.Errno) {
	var parts []int
	for _, kid := range e.Kids {
		k, f := plainKind(kid, cols)
		if f != 0 {
			return 0, f
		}
		parts = append(parts, k)
	}
	kind, ok := 0, true
	switch e.Op {
	case 1:
		for _, c := range cols {
			if c.Name == e.Name {
				return c.Kind, 0
			}
		}
		return 0, 132
	case 2:
		kind = e.V.Kind
	case 3:
		kind = map[string]int{"int": 1, "bool": 2, "text": 3}[e.Name]
	case 4, 5, 6, 7, 8:
		kind, ok = 1, parts[0] == 1 && parts[1] == 1
	case 9:
		kind, ok = 1, parts[0] == 1
	case 10, 11, 12, 13:
		kind, ok = 2, parts[0] == parts[1]
	case 14, 15:
		kind, ok = 2, parts[0] == 2 && parts[1] == 2
	case 16:
		kind, ok = 2, parts[0] == 2
	case 17:
		kind = 2
	case 18:
		kind, ok = parts[1], parts[0] == 2 && parts[1] == parts[2]
	case 19:
		kind, ok = parts[0], parts[0] == parts[1]
	case 20:
		kind, ok = 1, parts[0] == 3
	}
	if !ok {
		return 0, 133
	}
	return kind, 0
}

// plainDo reckons with unbounded numbers.
func plainDo(op int, a, b int64) (api.Value, api.Errno) {
	if op >= 7 && b == 0 {
		return api.Value{}, 11
	}
	x, y, z := big.NewInt(a), big.NewInt(b), new(big.Int)
	switch op {
	case 4:
		z.Add(x, y)
	case 5:
		z.Sub(x, y)
	case 6:
		z.Mul(x, y)
	case 7:
		z.Quo(x, y)
	case 8:
		z.Rem(x, y)
	}
	if !z.IsInt64() {
		return api.Value{}, 10
	}
	return api.Value{Kind: 1, N: z.Int64()}, 0
}

func plainBool(b bool) api.Value {
	if b {
		return api.Value{Kind: 2, N: 1}
	}
	return api.Value{Kind: 2}
}

// plainCmp answers the order of two values of one kind.
func plainCmp(a, b api.Value) int {
	if a.N != b.N {
		return big.NewInt(a.N).Cmp(big.NewInt(b.N))
	}
	return bytes.Compare([]byte(a.S), []byte(b.S))
}

// plainWorth answers the worth of an expression that has a kind over the row, or the error.
func plainWorth(e api.Expr, cols []api.Column, row []api.Value) (api.Value, api.Errno) {
	var null, zero api.Value
	ask := func(i int) (api.Value, api.Errno) { return plainWorth(e.Kids[i], cols, row) }
	switch e.Op {
	case 1:
		for i, c := range cols {
			if c.Name == e.Name {
				return row[i], 0
			}
		}
	case 2:
		return e.V, 0
	case 3:
		return null, 0
	case 18:
		a, f := ask(0)
		if f != 0 {
			return zero, f
		}
		if a.N == 1 {
			return ask(1)
		}
		return ask(2)
	case 19:
		a, f := ask(0)
		if f != 0 || a != null {
			return a, f
		}
		return ask(1)
	}
	a, f := ask(0)
	if f != 0 {
		return zero, f
	}
	switch {
	case e.Op == 17:
		return plainBool(a == null), 0
	case e.Op == 14 && a == plainBool(false), e.Op == 15 && a == plainBool(true):
		return a, 0
	case len(e.Kids) == 2:
		b, f := ask(1)
		if f != 0 {
			return zero, f
		}
		return plainTwo(e.Op, a, b)
	case a == null:
		return null, 0
	case e.Op == 9:
		return plainDo(5, 0, a.N)
	case e.Op == 16:
		return plainBool(a == plainBool(false)), 0
	}
	return api.Value{Kind: 1, N: int64(len(a.S))}, 0
}

// plainTwo answers what an Op makes of two parts that were asked for.
func plainTwo(op int, a, b api.Value) (api.Value, api.Errno) {
	var null api.Value
	if op == 14 || op == 15 {
		settling := plainBool(op == 15)
		switch {
		case a == settling || b == settling:
			return settling, 0
		case a == null || b == null:
			return null, 0
		}
		return plainBool(op == 14), 0
	}
	if a == null || b == null {
		return null, 0
	}
	switch op {
	case 10:
		return plainBool(a == b), 0
	case 11:
		return plainBool(a != b), 0
	case 12:
		return plainBool(plainCmp(a, b) == -1), 0
	case 13:
		return plainBool(plainCmp(b, a) != -1), 0
	}
	return plainDo(op, a.N, b.N)
}

// plainWalk answers e, and all within, each ahead of its Kids, from the left.
func plainWalk(e api.Expr) []api.Expr {
	l := []api.Expr{e}
	for _, kid := range e.Kids {
		l = append(l, plainWalk(kid)...)
	}
	return l
}

func plainCols(e api.Expr) []string {
	var l []string
	for _, x := range plainWalk(e) {
		if x.Op == 1 && !slices.Contains(l, x.Name) {
			l = append(l, x.Name)
		}
	}
	slices.Sort(l)
	return l
}
