package mapping

import "slices"

// numbers is a dictionary that gives each key its place in their order as its number.
type numbers[K any] struct {
	keys    []K // by number
	compare func(a, b K) int
}

// numbersOf makes a dictionary of the keys in l, which becomes its own; keys are one if none of them comes first.
func numbersOf[K any](l []K, compare func(a, b K) int) numbers[K] {
	slices.SortFunc(l, compare)
	keys := slices.CompactFunc(l, func(a, b K) bool { return compare(a, b) == 0 })
	return numbers[K]{keys: keys, compare: compare}
}

// of tells the number of k, which is one of the keys.
func (n numbers[K]) of(k K) int64 {
	place, _ := slices.BinarySearchFunc(n.keys, k, n.compare)
	return int64(place)
}
