package naive

import (
	"iter"
	"slices"

	"diptych/algebra"
	"diptych/api"
)

// step tells what may become of a row: in each way a cell or more is given that was none.
type step func(row []api.Value) iter.Seq[[]api.Value]

// ways tells what all steps, one behind the other, make of the row.
func ways(row []api.Value, steps []step) iter.Seq[[]api.Value] {
	return func(yield func([]api.Value) bool) {
		var walk func(row []api.Value, left []step) bool
		walk = func(row []api.Value, left []step) bool {
			if len(left) == 0 {
				return yield(row)
			}
			for next := range left[0](row) {
				if !walk(next, left[1:]) {
					return false
				}
			}
			return true
		}
		walk(row, steps)
	}
}

// fitting tells the ways in which all patterns are triples of the store.
func (w *work) fitting(p api.Plan) api.Table {
	vars := algebra.Vars(p)
	steps := mapped(p.Bgp, func(pattern api.Pattern) step { return w.fit(vars, pattern) })
	return api.Table{Vars: vars, Rows: slices.Collect(ways(make([]api.Value, len(vars)), steps))}
}

// fit gives the pattern's variables values so that it is a triple of the store.
func (w *work) fit(vars []string, pattern api.Pattern) step {
	column := func(part api.Value) int {
		if part.Kind != api.KNull {
			return nowhere
		}
		return slices.Index(vars, part.Text)
	}
	s, p, o := column(pattern.S), column(pattern.P), column(pattern.O)
	return func(row []api.Value) iter.Seq[[]api.Value] {
		wanted := api.Pattern{S: given(row, s, pattern.S), P: given(row, p, pattern.P), O: given(row, o, pattern.O)}
		return func(yield func([]api.Value) bool) {
			for _, t := range w.triples.Match(wanted) {
				if !yield(with(with(with(row, s, t.S), p, t.P), o, t.O)) {
					return
				}
			}
		}
	}
}

// given tells the cell, if there is one and it is bound, else v.
func given(row []api.Value, column int, v api.Value) api.Value {
	if cell := cellAt(row, column); isBound(cell) {
		return cell
	}
	return v
}

// with tells a row that has v in the column.
func with(row []api.Value, column int, v api.Value) []api.Value {
	if column == nowhere {
		return row
	}
	row = slices.Clone(row)
	row[column] = v
	return row
}
