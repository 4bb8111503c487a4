package triples

import (
	"cmp"
	"iter"
	"slices"
	"strings"

	"diptych/api"
	"diptych/value"
)

// Parts of a triple.
const (
	subject = iota
	predicate
	object
	parts
)

// row is a triple: its parts' numbers among the store's values. As these are sorted, numbers are ordered as the values are.
type row [parts]int

func isSubject(v api.Value) bool {
	return v.Kind == api.KIri || v.Kind == api.KBlank
}

func isPredicate(v api.Value) bool {
	return v.Kind == api.KIri
}

func isObject(v api.Value) bool {
	switch v.Kind {
	case api.KIri, api.KBlank, api.KLit, api.KText, api.KBool, api.KInt, api.KDec:
		return true
	}
	return false
}

func compareValues(a, b api.Value) int {
	return value.Order(api.LangS, a, b)
}

// own tells v in new memory; v is no list.
func own(v api.Value) api.Value {
	v.Text, v.Extra, v.List = strings.Clone(v.Text), strings.Clone(v.Extra), nil
	return v
}

// sortedValues tells the values that occur in l, each once.
func sortedValues(l []api.Triple) []api.Value {
	var values []api.Value
	for _, t := range l {
		values = append(values, t.S, t.P, t.O)
	}
	slices.SortFunc(values, compareValues)
	var kept []api.Value
	for _, v := range slices.CompactFunc(values, value.Same) {
		kept = append(kept, own(v))
	}
	return kept
}

// sortedRows tells the rows of l, each once; values has all that occur in l.
func sortedRows(values []api.Value, l []api.Triple) []row {
	number := func(v api.Value) int {
		n, _ := slices.BinarySearchFunc(values, v, compareValues)
		return n
	}
	var rows []row
	for _, t := range l {
		rows = append(rows, row{subject: number(t.S), predicate: number(t.P), object: number(t.O)})
	}
	slices.SortFunc(rows, func(a, b row) int { return slices.Compare(a[:], b[:]) })
	return slices.Compact(rows)
}

// sortedNumbers tells the rows' numbers, sorted by the parts in the order of the levels.
func sortedNumbers(rows []row, levels [parts]int) []int {
	var numbers []int
	for n := range rows {
		numbers = append(numbers, n)
	}
	slices.SortFunc(numbers, func(a, b int) int {
		for _, part := range levels {
			if first := cmp.Compare(rows[a][part], rows[b][part]); first != 0 {
				return first
			}
		}
		return 0
	})
	return numbers
}

func (s *Store) triple(r row) api.Triple {
	return api.Triple{S: own(s.values[r[subject]]), P: own(s.values[r[predicate]]), O: own(s.values[r[object]])}
}

// fitting yields the rows that fit p, in their order.
func (s *Store) fitting(p api.Pattern) iter.Seq[row] {
	wanted := [parts]api.Value{subject: p.S, predicate: p.P, object: p.O}
	return func(yield func(row) bool) {
		for _, n := range s.having(wanted) {
			if r := s.triples[n]; isJoined(wanted, r) && !yield(r) {
				return
			}
		}
	}
}

// having tells the numbers, rising, of the triples that have the wanted values, whatever stands where a variable is wanted.
func (s *Store) having(wanted [parts]api.Value) []int {
	c, err := s.Cursor(boundAhead(wanted))
	if err != api.OK {
		return nil
	}
	for _, v := range wanted {
		if isVariable(v) {
			continue
		}
		if !c.Open() || !c.Seek(v) || !value.Same(c.valueAt(c.here().at), v) {
			return nil
		}
	}
	below := c.below()
	return c.list[below.at:below.end]
}

// boundAhead names the order in which the parts whose values are wanted stand ahead of the others: below such values the triples stand in the store's own order.
func boundAhead(wanted [parts]api.Value) string {
	const letters = "spo"
	bound, open := "", ""
	for part, v := range wanted {
		letter := letters[part : part+1]
		if isVariable(v) {
			open += letter
		} else {
			bound += letter
		}
	}
	return bound + open
}

func isVariable(v api.Value) bool {
	return v.Kind == api.KNull
}

// isJoined tells whether r has the same value wherever one variable is wanted twice. Variables without a name are all unlike.
func isJoined(wanted [parts]api.Value, r row) bool {
	for i, v := range wanted {
		for j, w := range wanted[:i] {
			one := isVariable(v) && isVariable(w) && v.Text != "" && v.Text == w.Text
			if one && r[i] != r[j] {
				return false
			}
		}
	}
	return true
}
