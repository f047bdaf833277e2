package query

import (
	"headgate/api"
	"headgate/decode"
	"headgate/expr"
	"headgate/window"
)

// A rule tells whether a query, with its projected columns, is as it should be, and the error of one that isn't. It is
// asked of those alone for which the rules ahead of it hold.
type rule struct {
	broken api.Errno
	holds  func(q api.Query, cols []api.Column) bool
}

// rules answers the rules of a right query, in order.
func rules() [6]rule {
	return [...]rule{
		{api.ErrQueryCols, columnsHold},
		{api.ErrQueryFilter, filterHolds},
		{api.ErrQueryProject, projectHolds},
		{api.ErrQueryTime, timeHolds},
		{api.ErrQueryAggs, aggsHold},
		{api.ErrQueryMode, modeHolds},
	}
}

func columnsHold(q api.Query, _ []api.Column) bool { return decode.Check(q.Cols) == api.OK }

func filterHolds(q api.Query, _ []api.Column) bool {
	if len(q.Filter) != 1 {
		return len(q.Filter) == 0
	}
	kind, e := expr.Kind(q.Filter[0], q.Cols)
	return e == api.OK && kind == api.KBool
}

func projectHolds(_ api.Query, cols []api.Column) bool { return decode.Check(cols) == api.OK }

func timeHolds(q api.Query, cols []api.Column) bool {
	if q.Time == "" {
		return q.Delay == 0 && !q.Distinct
	}
	return kindOf(cols, q.Time) == api.KInt && q.Delay >= 0 && q.Delay <= api.MaxTime
}

func aggsHold(q api.Query, cols []api.Column) bool {
	if len(q.Aggs) == 0 && len(q.Group) == 0 && q.Size == 0 && q.Slide == 0 {
		return true
	}
	// That columns are right says of their names too that they are unlike, and not too many.
	return q.Time != "" && len(q.Aggs) <= api.MaxAggs &&
		window.Check(q.Size, q.Slide) == api.OK && decode.Check(windowed(q, cols)) == api.OK
}

func modeHolds(q api.Query, _ []api.Column) bool {
	switch q.Mode {
	case api.Append, api.Update:
		return true
	case api.Complete:
		return aggregated(q)
	}
	return false
}

// aggregated answers whether q is aggregated: one with windows but without Aggs may be right, and isn't.
func aggregated(q api.Query) bool { return len(q.Aggs) > 0 }
