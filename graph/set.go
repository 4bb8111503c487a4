package graph

import (
	"cmp"
	"slices"
)

// set is a set: its members, rising, each once.
type set[T cmp.Ordered] []T

func setOf[T cmp.Ordered](l []T) set[T] {
	members := slices.Clone(l)
	slices.Sort(members)
	return slices.Compact(members)
}

func (s set[T]) has(v T) bool {
	_, there := slices.BinarySearch(s, v)
	return there
}

// and tells what is in both sets.
func (s set[T]) and(other set[T]) set[T] {
	few, many := s, other
	if len(few) > len(many) {
		few, many = many, few
	}
	var both set[T]
	for _, v := range few {
		if many.has(v) {
			both = append(both, v)
		}
	}
	return both
}

func areUnlike[T cmp.Ordered](l []T) bool {
	return len(setOf(l)) == len(l)
}
