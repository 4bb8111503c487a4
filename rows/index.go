package rows

import (
	"iter"
	"slices"

	"diptych/api"
	"diptych/value"
)

// encoding tells bytes for a row that may be: others for every other row of as many cells.
func encoding(row []api.Value) string {
	var all []byte
	for _, v := range row {
		if cell, err := value.Encode(v); err == api.OK {
			all = append(all, cell...)
		}
	}
	return string(all)
}

// sameBag tells whether the same rows are in both, each as often.
func sameBag(a, b [][]api.Value) bool {
	left := map[string]int{}
	for _, row := range a {
		left[encoding(row)]++
	}
	for _, row := range b {
		key := encoding(row)
		if left[key] == 0 {
			return false
		}
		left[key]--
	}
	return len(a) == len(b)
}

// shared are the columns, in two tables, of the variables that both have.
type shared struct {
	a, b []int
}

func sharedBy(a, b []string) shared {
	var s shared
	for i, j := range columns(a, b) {
		if j != nowhere {
			s.a, s.b = append(s.a, i), append(s.b, j)
		}
	}
	return s
}

// fit tells whether the rows are compatible.
func (s shared) fit(a, b []api.Value) bool {
	for n := range s.a {
		if x, y := a[s.a[n]], b[s.b[n]]; isBound(x) && isBound(y) && !value.Same(x, y) {
			return false
		}
	}
	return true
}

// meet tells whether a variable is bound in both rows.
func (s shared) meet(a, b []api.Value) bool {
	for n := range s.a {
		if isBound(a[s.a[n]]) && isBound(b[s.b[n]]) {
			return true
		}
	}
	return false
}

// index finds, among the rows of a table b, those that are compatible with a row of a table a.
type index struct {
	shared shared
	rows   [][]api.Value
	bound  map[string][]int // numbers of the rows whose shared cells are all bound, by these cells' encodings
	loose  []int            // numbers of the others: no encoding finds them
}

func newIndex(s shared, rows [][]api.Value) index {
	x := index{shared: s, rows: rows, bound: map[string][]int{}}
	for n, row := range rows {
		cells := cellsAt(row, s.b)
		if !every(cells, isBound) {
			x.loose = append(x.loose, n)
			continue
		}
		key := encoding(cells)
		x.bound[key] = append(x.bound[key], n)
	}
	return x
}

func cellsAt(row []api.Value, columns []int) []api.Value {
	return mapped(columns, func(column int) api.Value { return row[column] })
}

// compatible yields the rows of b that are compatible with a's row, in their order.
func (x index) compatible(row []api.Value) iter.Seq[[]api.Value] {
	return func(yield func([]api.Value) bool) {
		cells := cellsAt(row, x.shared.a)
		if !every(cells, isBound) {
			x.lookThrough(row, yield)
			return
		}
		for _, n := range x.numbers(row, encoding(cells)) {
			if !yield(x.rows[n]) {
				return
			}
		}
	}
}

func (x index) lookThrough(row []api.Value, yield func([]api.Value) bool) {
	for _, other := range x.rows {
		if x.shared.fit(row, other) && !yield(other) {
			return
		}
	}
}

// numbers tells, rising, which rows of b are compatible with a's row, whose shared cells are all bound and have this encoding.
func (x index) numbers(row []api.Value, key string) []int {
	found := x.bound[key]
	loose := list[int](x.loose).where(func(n int) bool { return x.shared.fit(row, x.rows[n]) })
	if len(loose) == 0 {
		return found
	}
	found = slices.Concat(found, loose)
	slices.Sort(found)
	return found
}

// takeOut tells whether a row of b is compatible with a's row and has a variable that is bound in both.
func (x index) takeOut(row []api.Value) bool {
	if !slices.ContainsFunc(cellsAt(row, x.shared.a), isBound) {
		return false // ahead of the search, which would find all rows
	}
	for other := range x.compatible(row) {
		if x.shared.meet(row, other) {
			return true
		}
	}
	return false
}
