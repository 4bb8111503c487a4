package rows

import (
	"slices"
	"strings"

	"diptych/api"
	"diptych/value"
)

// varsMayBe tells whether vars may be a table's.
func varsMayBe(vars []string) bool {
	return len(vars) <= api.MaxVars && every(vars, isName) && areUnlike(vars)
}

// isName tells whether s is a name: what a blank node's text must be.
func isName(s string) bool {
	return value.Check(api.Value{Kind: api.KBlank, Text: s})
}

func areUnlike(vars []string) bool {
	for i, v := range vars {
		if slices.Contains(vars[:i], v) {
			return false
		}
	}
	return true
}

func hasRow(t api.Table, i int) bool {
	return i >= 0 && i < len(t.Rows)
}

func isBound(v api.Value) bool {
	return v.Kind != api.KNull
}

// over tells a table without rows over the variables of both, and whether there may be such a one.
func over(a, b api.Table) (api.Table, bool) {
	if !Check(a) || !Check(b) {
		return api.Table{}, false
	}
	lacking := list[string](b.Vars).where(func(v string) bool { return !slices.Contains(a.Vars, v) })
	vars := slices.Concat(a.Vars, lacking)
	return api.Table{Vars: ownVars(vars)}, len(vars) <= api.MaxVars
}

// nowhere is the column of a variable that a table has not.
const nowhere = -1

// columns tells, for each of vars, its place among the others, or nowhere.
func columns(vars, among []string) []int {
	return mapped(vars, func(v string) int { return slices.Index(among, v) })
}

func cellAt(row []api.Value, column int) api.Value {
	if column == nowhere {
		return api.Value{}
	}
	return row[column]
}

// picked tells the rows of t under vars.
func picked(t api.Table, vars []string) [][]api.Value {
	from := columns(vars, t.Vars)
	return mapped(t.Rows, func(row []api.Value) []api.Value {
		return mapped(from, func(column int) api.Value { return own(cellAt(row, column)) })
	})
}

// source is where a cell of a joined row comes from: its columns in both tables.
type source struct {
	a, b int
}

func sources(vars, a, b []string) []source {
	return mapped(vars, func(v string) source { return source{slices.Index(a, v), slices.Index(b, v)} })
}

// merged tells a row whose cells are a's where these are bound, else b's.
func merged(a, b []api.Value, from []source) []api.Value {
	return mapped(from, func(s source) api.Value {
		cell := cellAt(a, s.a)
		if !isBound(cell) {
			cell = cellAt(b, s.b)
		}
		return own(cell)
	})
}

// The calls below tell what they are handed in new memory.

func ownTable(t api.Table) api.Table {
	return api.Table{Vars: ownVars(t.Vars), Rows: mapped(t.Rows, ownRow)}
}

func ownVars(vars []string) []string {
	return mapped(vars, strings.Clone)
}

func ownRow(row []api.Value) []api.Value {
	return mapped(row, own)
}

func own(v api.Value) api.Value {
	v.Text, v.Extra, v.List = strings.Clone(v.Text), strings.Clone(v.Extra), mapped(v.List, own)
	return v
}
