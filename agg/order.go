package agg

import (
	"diptych/api"
	"diptych/expr"
	"diptych/rows"
	"diptych/value"
)

// maySort tells whether rows may be sorted by sorts.
func maySort(lang int, sorts []api.Sort) bool {
	return len(sorts) >= 1 && len(sorts) <= api.MaxVars &&
		every(sorts, func(s api.Sort) bool { return expr.Check(lang, s.E) && !expr.HasAgg(s.E) })
}

// order is how rows are sorted.
type order struct {
	lang  int
	sorts []api.Sort
}

// ranked is a row with what it is sorted by.
type ranked struct {
	keys []api.Value
	row  []api.Value
}

func (r ranked) cells() []api.Value {
	return r.row
}

// rank puts every row of t with its keys; in C it tells the first error.
func (o order) rank(t api.Table, env expr.Env, put func(ranked)) api.Errno {
	return each(t, env, func(at scene) api.Errno {
		keys, err := o.keys(at)
		if err == api.OK {
			put(ranked{keys, at.row})
		}
		return err
	})
}

// keys tells what a row is sorted by; in S a key is unbound where it errs.
func (o order) keys(at scene) ([]api.Value, api.Errno) {
	var l []api.Value
	for _, s := range o.sorts {
		v, err := expr.Eval(o.lang, s.E, at)
		if err != api.OK && o.lang != api.LangS {
			return nil, err
		}
		l = append(l, v)
	}
	return l, api.OK
}

func (o order) compare(a, b ranked) int {
	for i, s := range o.sorts {
		first := value.Order(o.lang, a.keys[i], b.keys[i])
		if s.Down {
			first = -first
		}
		if first != 0 {
			return first
		}
	}
	return rows.Compare(o.lang, a.row, b.row)
}
