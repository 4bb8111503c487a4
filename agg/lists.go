package agg

import (
	"slices"
	"strings"

	"diptych/api"
)

func isBound(v api.Value) bool {
	return v.Kind != api.KNull
}

// atMost tells n, or how many rows there are, if these are fewer.
func atMost(l [][]api.Value, n int64) int {
	return int(min(n, int64(len(l))))
}

func every[T any](l []T, holds func(T) bool) bool {
	for _, v := range l {
		if !holds(v) {
			return false
		}
	}
	return true
}

// mapped tells what tell makes of each of l, in a list of its own.
func mapped[A, B any](l []A, tell func(A) B) []B {
	told := slices.Grow([]B(nil), len(l)) // nil of none
	for _, v := range l {
		told = append(told, tell(v))
	}
	return told
}

// The calls below tell what they are handed in new memory.

func ownTable(vars []string, l [][]api.Value) api.Table {
	return api.Table{Vars: ownVars(vars), Rows: mapped(l, ownRow)}
}

func ownVars(vars []string) []string {
	return mapped(vars, strings.Clone)
}

func ownRow(row []api.Value) []api.Value {
	return mapped(row, own)
}

func own(v api.Value) api.Value {
	v.Text, v.Extra, v.List = strings.Clone(v.Text), strings.Clone(v.Extra), mapped(v.List, own)
	return v
}
