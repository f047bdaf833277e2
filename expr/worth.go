package expr

import (
	"headgate/api"
	"headgate/decode"
	"headgate/num"
	"headgate/value"
)

// A scope is what well formed expressions are asked over. Where one has an error, it is given up by a panic.
type scope struct {
	rules [api.ELen + 1]rule
	cols  []api.Column
	row   []api.Value
}

// must gives up with f unless ok holds.
func must(ok bool, f api.Errno) {
	if !ok {
		panic(f)
	}
}

// unlessGivenUp answers what ask tells, or the error with which it gives up.
func unlessGivenUp[T any](ask func() T) (told T, f api.Errno) {
	defer func() {
		if gaveUp := recover(); gaveUp != nil {
			f = gaveUp.(api.Errno)
		}
	}()
	return ask(), api.OK
}

func (s *scope) kind(e api.Expr) int {
	var parts kinds
	for i, kid := range e.Kids {
		parts[i] = s.kind(kid)
	}
	return s.rules[e.Op].kind(s, e, parts)
}

func (s *scope) worth(e api.Expr) api.Value { return s.rules[e.Op].worth(s, e) }

// one answers what of makes of e's only part, or null of null.
func (s *scope) one(e api.Expr, of func(api.Value) api.Value) api.Value {
	a := s.worth(e.Kids[0])
	if a.Kind == api.KNull {
		return a
	}
	return of(a)
}

// two answers what of makes of e's two parts, or null, if one of them is.
func (s *scope) two(e api.Expr, of func(a, b api.Value) api.Value) api.Value {
	// Both are asked for at once, as behind a null there may be an error.
	a, b := s.worth(e.Kids[0]), s.worth(e.Kids[1])
	if a.Kind == api.KNull || b.Kind == api.KNull {
		return api.Value{}
	}
	return of(a, b)
}

func columnWorth(s *scope, e api.Expr) api.Value {
	at, _ := decode.Find(s.cols, e.Name)
	return s.row[at]
}

func literalWorth(_ *scope, e api.Expr) api.Value { return e.V }

func nullWorth(*scope, api.Expr) api.Value { return api.Value{} }

func reckoned(s *scope, e api.Expr) api.Value {
	return s.two(e, func(a, b api.Value) api.Value { return do(e.Op, a.N, b.N) })
}

func negated(s *scope, e api.Expr) api.Value {
	return s.one(e, func(a api.Value) api.Value { return do(api.ESub, 0, a.N) })
}

// do answers what num.Do makes of a and b, or gives up with its error.
func do(op int, a, b int64) api.Value {
	n, f := num.Do(op, a, b)
	must(f == api.OK, f)
	return value.Int(n)
}

func equal(s *scope, e api.Expr) api.Value {
	return s.ordered(e, func(order int) bool { return order == 0 })
}

func unlike(s *scope, e api.Expr) api.Value {
	return s.ordered(e, func(order int) bool { return order != 0 })
}

func ahead(s *scope, e api.Expr) api.Value {
	return s.ordered(e, func(order int) bool { return order < 0 })
}

func notBehind(s *scope, e api.Expr) api.Value {
	return s.ordered(e, func(order int) bool { return order <= 0 })
}

// ordered answers whether the order of e's parts is one that is asked for.
func (s *scope) ordered(e api.Expr, is func(order int) bool) api.Value {
	return s.two(e, func(a, b api.Value) api.Value { return value.Bool(is(value.Cmp(a, b))) })
}

func allTrue(s *scope, e api.Expr) api.Value { return s.joined(e, value.Bool(false)) }

func oneTrue(s *scope, e api.Expr) api.Value { return s.joined(e, value.Bool(true)) }

// joined answers settling, if a part is that, else null, if one is null, else the other bool.
func (s *scope) joined(e api.Expr, settling api.Value) api.Value {
	a := s.worth(e.Kids[0])
	if a == settling {
		return a
	}
	b := s.worth(e.Kids[1])
	// Behind an a that doesn't settle it, it is all b's; behind null, only a settling b counts.
	if b == settling || a.Kind != api.KNull {
		return b
	}
	return a
}

func turned(s *scope, e api.Expr) api.Value {
	return s.one(e, func(a api.Value) api.Value { return value.Bool(a.N == 0) })
}

func asked(s *scope, e api.Expr) api.Value {
	return value.Bool(s.worth(e.Kids[0]).Kind == api.KNull)
}

func chosen(s *scope, e api.Expr) api.Value {
	if s.worth(e.Kids[0]) == value.Bool(true) {
		return s.worth(e.Kids[1])
	}
	return s.worth(e.Kids[2])
}

func replaced(s *scope, e api.Expr) api.Value {
	a := s.worth(e.Kids[0])
	if a.Kind == api.KNull {
		return s.worth(e.Kids[1])
	}
	return a
}

func measured(s *scope, e api.Expr) api.Value {
	return s.one(e, func(a api.Value) api.Value { return value.Int(int64(len(a.S))) })
}
