package rows

import (
	"slices"

	"diptych/api"
	"diptych/value"
)

// list is a list of rows of any kind: of cells, of variables, of numbers.
type list[R any] []R

// where tells those of l for which keeps holds.
func (l list[R]) where(keeps func(R) bool) list[R] {
	var kept list[R]
	for _, r := range l {
		if keeps(r) {
			kept = append(kept, r)
		}
	}
	return kept
}

func every[R any](l []R, holds func(R) bool) bool {
	for _, r := range l {
		if !holds(r) {
			return false
		}
	}
	return true
}

// mapped tells what tell makes of each of l, in a list of its own.
func mapped[A, B any](l []A, tell func(A) B) []B {
	told := slices.Grow([]B(nil), len(l)) // nil of none
	for _, r := range l {
		told = append(told, tell(r))
	}
	return told
}

// sortBy sorts l as compare, a method of the order, tells of two rows.
func sortBy[O, R any](l []R, order O, compare func(order O, a, b R) int) {
	slices.SortFunc(l, func(a, b R) int { return compare(order, a, b) })
}

// language orders rows as it orders values.
type language int

func (l language) compare(a, b []api.Value) int {
	return slices.CompareFunc(a, b, l.order)
}

func (l language) order(a, b api.Value) int {
	return value.Order(int(l), a, b)
}
