package join

import (
	"slices"
	"strings"

	"diptych/api"
)

func every[T any](l []T, holds func(T) bool) bool {
	for _, v := range l {
		if !holds(v) {
			return false
		}
	}
	return true
}

// mapped tells what tell makes of each of l, in a list of its own.
func mapped[A, B any](l []A, tell func(A) B) []B {
	told := slices.Grow([]B(nil), len(l)) // nil of none
	for _, v := range l {
		told = append(told, tell(v))
	}
	return told
}

// isPermutation tells whether order has each of vars, which are all unlike, once, and nothing else.
func isPermutation(order, vars []string) bool {
	return len(order) == len(vars) && every(vars, func(name string) bool { return slices.Contains(order, name) })
}

// The calls below tell what they are handed in new memory.

func ownVars(vars []string) []string {
	return mapped(vars, strings.Clone)
}

func ownRow(row []api.Value) []api.Value {
	return mapped(row, own)
}

func own(v api.Value) api.Value {
	v.Text, v.Extra, v.List = strings.Clone(v.Text), strings.Clone(v.Extra), mapped(v.List, own)
	return v
}
