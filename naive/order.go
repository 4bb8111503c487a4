package naive

import (
	"slices"

	"diptych/api"
	"diptych/rows"
	"diptych/value"
)

// sortable is a row with what it is sorted by.
type sortable struct {
	keys []api.Value
	row  []api.Value
}

// canon tells the rows sorted by Compare.
func (w *work) canon(l [][]api.Value) [][]api.Value {
	l = slices.Clone(l)
	slices.SortFunc(l, func(a, b []api.Value) int { return rows.Compare(w.lang, a, b) })
	return l
}

// ordered tells the rows sorted by the keys.
func (w *work) ordered(sorts []api.Sort, in api.Table) api.Table {
	l := mapped(in.Rows, func(row []api.Value) sortable {
		keys := mapped(sorts, func(s api.Sort) api.Value { return w.value(s.E, in.Vars, row) })
		return sortable{keys, row}
	})
	slices.SortFunc(l, func(a, b sortable) int {
		for i, s := range sorts {
			first := value.Order(w.lang, a.keys[i], b.keys[i])
			if s.Down {
				first = -first
			}
			if first != 0 {
				return first
			}
		}
		return rows.Compare(w.lang, a.row, b.row)
	})
	return api.Table{Vars: in.Vars, Rows: mapped(l, func(s sortable) []api.Value { return s.row })}
}

// sliced tells the rows behind those that p skips, no more than its limit.
func (w *work) sliced(p api.Plan, in api.Table) api.Table {
	l := in.Rows
	if p.In[0].Op != api.POrder {
		l = w.canon(l)
	}
	l = l[atMost(l, max(p.Skip, 0)):]
	if p.Limit >= 0 {
		l = l[:atMost(l, p.Limit)]
	}
	return api.Table{Vars: in.Vars, Rows: l}
}

// atMost tells n, or how many there are in l, if these are fewer.
func atMost(l [][]api.Value, n int64) int64 {
	return min(n, int64(len(l)))
}
