package naive

import (
	"slices"
	"strings"

	"diptych/api"
	"diptych/value"
)

func isSame(a, b api.Value) bool {
	return value.Same(a, b)
}

func every[T any](l []T, holds func(T) bool) bool {
	for _, v := range l {
		if !holds(v) {
			return false
		}
	}
	return true
}

// mapped tells what tell makes of each of l, in a list of its own.
func mapped[A, B any](l []A, tell func(A) B) []B {
	told := slices.Grow([]B(nil), len(l)) // nil of none
	for _, v := range l {
		told = append(told, tell(v))
	}
	return told
}

// union tells the names of all lists, each once.
func union(lists ...[]string) []string {
	var names []string
	for _, name := range slices.Concat(lists...) {
		if !slices.Contains(names, name) {
			names = append(names, name)
		}
	}
	return names
}

// The calls below tell what they are handed in new memory.

func ownTable(t api.Table) api.Table {
	return api.Table{Vars: mapped(t.Vars, strings.Clone), Rows: mapped(t.Rows, ownRow)}
}

func ownRow(row []api.Value) []api.Value {
	return mapped(row, own)
}

func own(v api.Value) api.Value {
	v.Text, v.Extra, v.List = strings.Clone(v.Text), strings.Clone(v.Extra), mapped(v.List, own)
	return v
}
