package query

import (
	"headgate/agg"
	"headgate/api"
	"headgate/decode"
	"headgate/expr"
)

// projected answers the projected columns of any query; one whose expression has no kind is of none, and so not right.
func projected(q api.Query) []api.Column {
	if len(q.Project) > api.MaxCols {
		// No such query is right: no expression of all these needs to be gone over.
		return nil
	}
	return together(q.Project, func(p api.Named) (string, int) {
		kind, _ := expr.Kind(p.E, q.Cols)
		return p.Name, kind
	})
}

// windowed answers the columns of aggregates by windows and groups over the projected cols; one that can't be is of no
// kind, and so not right.
func windowed(q api.Query, cols []api.Column) []api.Column {
	l := []api.Column{{Name: "wstart", Kind: api.KInt}, {Name: "wend", Kind: api.KInt}}
	l = append(l, together(q.Group, func(name string) (string, int) {
		return name, kindOf(cols, name)
	})...)
	return append(l, together(q.Aggs, func(a api.Agg) (string, int) {
		kind, _ := agg.Kind(a.Kind, kindOf(cols, a.Col))
		return a.Name, kind
	})...)
}

// kindOf answers the kind of the column of that name, or KNull, which no column is of.
func kindOf(cols []api.Column, name string) int {
	at, ok := decode.Find(cols, name)
	if !ok {
		return api.KNull
	}
	return cols[at].Kind
}

// together takes the names of l's items, each with its kind, together as columns.
func together[T any](l []T, of func(T) (name string, kind int)) []api.Column {
	cols := make([]api.Column, len(l))
	for i, x := range l {
		cols[i].Name, cols[i].Kind = of(x)
	}
	return cols
}
