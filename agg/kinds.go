package agg

import (
	"headgate/api"
	"headgate/num"
	"headgate/value"
)

// kinds is how many numbers there are from 0, which is no kind, to the last kind.
const kinds = api.AMax + 1

func known(kind int) bool { return kind > 0 && kind < kinds }

// joins answers, by kind, what tells the Sum and the Best of what a and b were kept of; N is the same of all kinds.
func joins() [kinds]func(a, b Acc) Acc {
	return [...]func(a, b Acc) Acc{
		api.ACount: unchanged,
		api.ASome:  unchanged,
		api.ASum:   summed,
		api.AMin:   least,
		api.AMax:   greatest,
	}
}

func unchanged(a, _ Acc) Acc { return a }

func summed(a, b Acc) Acc {
	a.Sum = num.Both(a.Sum, b.Sum)
	return a
}

func least(a, b Acc) Acc { return better(a, b, -1) }

func greatest(a, b Acc) Acc { return better(a, b, 1) }

// better answers a with the Best of b, if that is how (value.Cmp) to that of a, or a has none; one of no N has none, whatever stands there.
func better(a, b Acc, how int) Acc {
	if b.N != 0 && (a.N == 0 || value.Cmp(b.Best, a.Best) == how) {
		a.Best = b.Best
	}
	return a
}

// worths answers, by kind, what tells what is kept is worth.
func worths() [kinds]func(a Acc) api.Value {
	return [...]func(a Acc) api.Value{
		api.ACount: counted,
		api.ASome:  counted,
		api.ASum:   total,
		api.AMin:   best,
		api.AMax:   best,
	}
}

func counted(a Acc) api.Value { return value.Int(a.N) }

func total(a Acc) api.Value {
	n, ok := num.Int(a.Sum)
	if a.N == 0 || !ok {
		return api.Value{}
	}
	return value.Int(n)
}

func best(a Acc) api.Value {
	if a.N == 0 {
		return api.Value{}
	}
	return a.Best
}
