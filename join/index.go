package join

import (
	"iter"

	"diptych/api"
	"diptych/value"
)

// shelves keep items by their keys, those of one key in the order in which they came.
type shelves[K comparable, T any] map[K][]T

func (s shelves[K, T]) put(key K, item T) {
	s[key] = append(s[key], item)
}

// index finds b's rows by the cells that they share with a's.
type index struct {
	pairs pairs
	bound shelves[string, int] // numbers of the rows whose shared cells are all bound, by these cells' encodings
	loose []int                // numbers of the others: no encoding finds them
}

func newIndex(p pairs) index {
	x := index{pairs: p, bound: shelves[string, int]{}}
	for n, row := range p.b.Rows {
		cells := mapped(p.shared, func(at place) api.Value { return row[at.b] })
		if every(cells, isBound) {
			x.bound.put(encoding(cells), n)
		} else {
			x.loose = append(x.loose, n)
		}
	}
	return x
}

// candidates is a finder.
func (x index) candidates(row []api.Value) iter.Seq[int] {
	cells := mapped(x.pairs.shared, func(at place) api.Value { return row[at.a] })
	if !every(cells, isBound) {
		return x.pairs.all(row)
	}
	return rising(x.bound[encoding(cells)], x.loose)
}

// encoding tells bytes for a list of values that may be: others for every other list of as many.
func encoding(l []api.Value) string {
	var all []byte
	for _, v := range l {
		if code, err := value.Encode(v); err == api.OK {
			all = append(all, code...)
		}
	}
	return string(all)
}

// rising yields the numbers of two lists that rise, so that they rise all together.
func rising(a, b []int) iter.Seq[int] {
	return func(yield func(int) bool) {
		a, b := a, b
		for len(a) > 0 || len(b) > 0 {
			least := &a
			if len(a) == 0 || len(b) > 0 && b[0] < a[0] {
				least = &b
			}
			if !yield((*least)[0]) {
				return
			}
			*least = (*least)[1:]
		}
	}
}
