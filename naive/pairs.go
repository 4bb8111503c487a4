package naive

import (
	"slices"

	"diptych/api"
)

// nowhere is the column of a variable that a table has not.
const nowhere = -1

// pairs tells what rows of two tables make together.
type pairs struct {
	vars []string
	a, b []int // where each of vars stands in the tables
}

func pairsOf(a, b []string) pairs {
	vars := union(a, b)
	return pairs{vars, columns(vars, a), columns(vars, b)}
}

// columns tells where each of vars stands among the others.
func columns(vars, among []string) []int {
	return mapped(vars, func(name string) int { return slices.Index(among, name) })
}

// fit tells whether the rows are compatible.
func (p pairs) fit(a, b []api.Value) bool {
	for i := range p.vars {
		x, y := cellAt(a, p.a[i]), cellAt(b, p.b[i])
		if isBound(x) && isBound(y) && !isSame(x, y) {
			return false
		}
	}
	return true
}

// joined tells the row that two compatible ones make.
func (p pairs) joined(a, b []api.Value) []api.Value {
	row := make([]api.Value, len(p.vars))
	for i := range row {
		row[i] = given(a, p.a[i], cellAt(b, p.b[i]))
	}
	return row
}

// joinedLeft tells, for each row of a, what it makes with those of b for which e is true, or it alone.
func (w *work) joinedLeft(e api.Expr, a, b api.Table) api.Table {
	both := pairsOf(a.Vars, b.Vars)
	told := api.Table{Vars: both.vars}
	unbound := make([]api.Value, len(b.Vars))
	for _, row := range a.Rows {
		before := len(told.Rows)
		for _, partner := range b.Rows {
			if !both.fit(row, partner) {
				continue
			}
			if joined := both.joined(row, partner); w.holds(e, told.Vars, joined) {
				told.Rows = append(told.Rows, joined)
			}
		}
		if len(told.Rows) == before {
			told.Rows = append(told.Rows, both.joined(row, unbound))
		}
	}
	return told
}

func cellAt(row []api.Value, column int) api.Value {
	if column == nowhere {
		return api.Value{}
	}
	return row[column]
}

func isBound(v api.Value) bool {
	return v.Kind != api.KNull
}
