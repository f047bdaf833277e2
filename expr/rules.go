package expr

import (
	"headgate/api"
	"headgate/decode"
	"headgate/value"
)

// A rule tells of one Op how many Kids its expressions have, whether their Names and Vs are as the Op asks, their kind
// by the kinds of their parts, and their worth.
type rule struct {
	kids  int
	form  func(e api.Expr) bool
	kind  func(s *scope, e api.Expr, parts kinds) int
	worth func(s *scope, e api.Expr) api.Value
}

// kinds are those of an expression's parts; of a part that isn't there KNull, which no expression is of.
type kinds [3]int

// rules answers the rules of all Ops, by Op; that of 0, which is none, has no functions.
func rules() [api.ELen + 1]rule {
	return [...]rule{
		api.ECol:    {0, isColumn, columnKind, columnWorth},
		api.ELit:    {0, isLiteral, literalKind, literalWorth},
		api.ENull:   {0, isNull, nullKind, nullWorth},
		api.EAdd:    {2, isBare, ofInts, reckoned},
		api.ESub:    {2, isBare, ofInts, reckoned},
		api.EMul:    {2, isBare, ofInts, reckoned},
		api.EDiv:    {2, isBare, ofInts, reckoned},
		api.ERem:    {2, isBare, ofInts, reckoned},
		api.ENeg:    {1, isBare, ofInt, negated},
		api.EEq:     {2, isBare, ofAlike, equal},
		api.ENe:     {2, isBare, ofAlike, unlike},
		api.ELt:     {2, isBare, ofAlike, ahead},
		api.ELe:     {2, isBare, ofAlike, notBehind},
		api.EAnd:    {2, isBare, ofBools, allTrue},
		api.EOr:     {2, isBare, ofBools, oneTrue},
		api.ENot:    {1, isBare, ofBool, turned},
		api.EIsNull: {1, isBare, ofAny, asked},
		api.EIf:     {3, isBare, ofChoice, chosen},
		api.EElse:   {2, isBare, ofFirst, replaced},
		api.ELen:    {1, isBare, ofText, measured},
	}
}

// allows answers whether e itself, of the rule's Op, is well formed.
func (r rule) allows(e api.Expr) bool {
	return r.form != nil && len(e.Kids) == r.kids && r.form(e)
}

func isColumn(e api.Expr) bool { return decode.Name(e.Name) && e.V == (api.Value{}) }

func isLiteral(e api.Expr) bool {
	return e.Name == "" && value.Check(e.V) == api.OK && e.V.Kind != api.KNull
}

func isNull(e api.Expr) bool { return named(e.Name) != api.KNull && e.V == (api.Value{}) }

func isBare(e api.Expr) bool { return e.Name == "" && e.V == (api.Value{}) }

// named answers the kind of a name, or KNull, if there is none.
func named(name string) int {
	switch name {
	case "int":
		return api.KInt
	case "bool":
		return api.KBool
	case "text":
		return api.KText
	}
	return api.KNull
}

func columnKind(s *scope, e api.Expr, _ kinds) int {
	at, ok := decode.Find(s.cols, e.Name)
	must(ok, api.ErrExprName)
	return s.cols[at].Kind
}

func literalKind(_ *scope, e api.Expr, _ kinds) int { return e.V.Kind }

func nullKind(_ *scope, e api.Expr, _ kinds) int { return named(e.Name) }

func ofInts(_ *scope, _ api.Expr, parts kinds) int {
	must(parts == kinds{api.KInt, api.KInt}, api.ErrExprType)
	return api.KInt
}

func ofInt(_ *scope, _ api.Expr, parts kinds) int {
	must(parts == kinds{api.KInt}, api.ErrExprType)
	return api.KInt
}

func ofAlike(_ *scope, _ api.Expr, parts kinds) int {
	must(parts[0] == parts[1], api.ErrExprType)
	return api.KBool
}

func ofBools(_ *scope, _ api.Expr, parts kinds) int {
	must(parts == kinds{api.KBool, api.KBool}, api.ErrExprType)
	return api.KBool
}

func ofBool(_ *scope, _ api.Expr, parts kinds) int {
	must(parts == kinds{api.KBool}, api.ErrExprType)
	return api.KBool
}

func ofAny(*scope, api.Expr, kinds) int { return api.KBool }

func ofChoice(_ *scope, _ api.Expr, parts kinds) int {
	must(parts[0] == api.KBool && parts[1] == parts[2], api.ErrExprType)
	return parts[1]
}

func ofFirst(_ *scope, _ api.Expr, parts kinds) int {
	must(parts[0] == parts[1], api.ErrExprType)
	return parts[0]
}

func ofText(_ *scope, _ api.Expr, parts kinds) int {
	must(parts == kinds{api.KText}, api.ErrExprType)
	return api.KInt
}
