package join

import (
	"iter"
	"slices"

	"diptych/api"
	"diptych/rows"
	"diptych/value"
)

// pairs are the rows of two tables, a's held against b's.
type pairs struct {
	a, b   api.Table
	vars   []string // of both tables
	cells  []place  // of vars
	shared []place  // of those variables that both tables have
}

// place is where a variable stands in both tables.
type place struct {
	a, b int
}

// nowhere is the column of a variable that a table has not.
const nowhere = -1

// pairsOf tells the pairs of the tables, and whether these may be.
func pairsOf(a, b api.Table) (pairs, bool) {
	if !rows.Check(a) || !rows.Check(b) {
		return pairs{}, false
	}
	p := pairs{a: a, b: b}
	for i, name := range a.Vars {
		at := place{i, slices.Index(b.Vars, name)}
		p.vars, p.cells = append(p.vars, name), append(p.cells, at)
		if at.b != nowhere {
			p.shared = append(p.shared, at)
		}
	}
	for i, name := range b.Vars {
		if !slices.Contains(a.Vars, name) {
			p.vars, p.cells = append(p.vars, name), append(p.cells, place{nowhere, i})
		}
	}
	return p, true
}

// joinable tells the pairs of the tables, and whether there may be a table of all their variables, too.
func joinable(a, b api.Table) (pairs, bool) {
	p, ok := pairsOf(a, b)
	return p, ok && len(p.vars) <= api.MaxVars
}

// finder yields, rising, the numbers of some of b's rows, those that are compatible with a's row among them.
type finder func(row []api.Value) iter.Seq[int]

// all finds all rows of b, whatever a's row is.
func (p pairs) all([]api.Value) iter.Seq[int] {
	return func(yield func(int) bool) {
		for n := range p.b.Rows {
			if !yield(n) {
				return
			}
		}
	}
}

// partners yields the rows of b that are compatible with a's row, in their order.
func (p pairs) partners(row []api.Value, find finder) iter.Seq[[]api.Value] {
	return func(yield func([]api.Value) bool) {
		for n := range find(row) {
			if partner := p.b.Rows[n]; p.fit(row, partner) && !yield(partner) {
				return
			}
		}
	}
}

func (p pairs) fit(a, b []api.Value) bool {
	return every(p.shared, func(at place) bool {
		x, y := a[at.a], b[at.b]
		return !isBound(x) || !isBound(y) || value.Same(x, y)
	})
}

func isBound(v api.Value) bool {
	return v.Kind != api.KNull
}

// merged tells the row that two compatible ones make; it shares memory with them.
func (p pairs) merged(a, b []api.Value) []api.Value {
	return mapped(p.cells, func(at place) api.Value {
		if at.b == nowhere || at.a != nowhere && isBound(a[at.a]) {
			return a[at.a]
		}
		return b[at.b]
	})
}

// joined tells the rows that all partners make.
func (p pairs) joined(find finder) api.Table {
	told := api.Table{Vars: ownVars(p.vars)}
	for _, row := range p.a.Rows {
		for partner := range p.partners(row, find) {
			told.Rows = append(told.Rows, ownRow(p.merged(row, partner)))
		}
	}
	return told
}

// parted tells the rows of a that have partners in b, or those that have none.
func parted(a, b api.Table, partnered bool) api.Table {
	p, ok := pairsOf(a, b)
	if !ok {
		return api.Table{}
	}
	told := api.Table{Vars: ownVars(a.Vars)}
	find := newIndex(p).candidates
	for _, row := range a.Rows {
		if p.hasPartner(row, find) == partnered {
			told.Rows = append(told.Rows, ownRow(row))
		}
	}
	return told
}

func (p pairs) hasPartner(row []api.Value, find finder) bool {
	for range p.partners(row, find) {
		return true
	}
	return false
}
