package join

import (
	"cmp"
	"slices"

	"diptych/api"
	"diptych/triples"
	"diptych/value"
)

// walk goes through the ways to give variables values: the cursors of all patterns go down together, a variable at a time.
type walk struct {
	levels []level     // one a variable
	row    []api.Value // the variables' values, as far as the walk has come down
	rows   [][]api.Value
	most   int
}

// lay puts a cursor for p to where its own values stand, and among those of its variables; it tells whether the store has such values.
func (w *walk) lay(s *triples.Store, p api.Pattern, order []string) bool {
	parts, name := sorted(p, order)
	cursor, _ := s.Cursor(name) // three letters in whatever order name one
	for i, part := range parts {
		if part.rank != nowhere {
			w.levels[part.rank] = w.levels[part.rank].with(cursor, i+1)
		} else if !sink(cursor, part.v) {
			return false
		}
	}
	return true
}

// patternPart is a part of a pattern.
type patternPart struct {
	letter string
	v      api.Value
	rank   int // the variable's place in the order; nowhere of a value
}

// sorted tells p's parts, values ahead and variables behind them in the order, and what a cursor's order of these parts is named.
func sorted(p api.Pattern, order []string) (parts [3]patternPart, name string) {
	rank := func(v api.Value) int {
		if isBound(v) {
			return nowhere
		}
		return slices.Index(order, v.Text)
	}
	parts = [3]patternPart{{"s", p.S, rank(p.S)}, {"p", p.P, rank(p.P)}, {"o", p.O, rank(p.O)}}
	slices.SortFunc(parts[:], func(a, b patternPart) int { return cmp.Compare(a.rank, b.rank) })
	for _, part := range parts {
		name += part.letter
	}
	return parts, name
}

// bind gives this variable and those behind it all values that they may have beside the row's so far; it tells whether there are no more rows than may be.
func (w *walk) bind(variable int) bool {
	if variable == len(w.levels) {
		return w.keep()
	}
	l := w.levels[variable]
	for key, there := l.first(); there; key, there = l.next() {
		w.row[variable] = key
		if l.descend(key) && !w.bind(variable+1) {
			return false
		}
	}
	l.leave()
	return true
}

func (w *walk) keep() bool {
	if len(w.rows) == w.most {
		return false
	}
	w.rows = append(w.rows, slices.Clone(w.row))
	return true
}

// level is where a variable stands in the patterns.
type level []strand

// strand is a pattern's cursor, and on which depths of it the variable stands, which may be in the pattern more than once.
type strand struct {
	cursor     *triples.Cursor
	head, foot int
}

// with tells the level with a depth of the cursor more.
func (l level) with(cursor *triples.Cursor, depth int) level {
	last := len(l) - 1
	if last >= 0 && l[last].cursor == cursor {
		l[last].foot = depth
		return l
	}
	return append(l, strand{cursor, depth, depth})
}

// first goes down to the first value that all strands have, next from there to the next one.
func (l level) first() (api.Value, bool) {
	if !every(l, func(s strand) bool { return s.cursor.Open() }) {
		return api.Value{}, false
	}
	return l.leap()
}

func (l level) next() (api.Value, bool) {
	for _, s := range l {
		rise(s.cursor, s.head)
	}
	if !l[0].cursor.Next() {
		return api.Value{}, false
	}
	return l.leap()
}

// leap goes to the first value, from where they stand on, that all strands have: each leaps to the greatest value so far, until it is the same for all.
func (l level) leap() (api.Value, bool) {
	greatest, _ := l[0].cursor.Key()
leaps:
	for {
		for _, s := range l {
			if !s.cursor.Seek(greatest) {
				return api.Value{}, false
			}
			if key, _ := s.cursor.Key(); !value.Same(key, greatest) {
				greatest = key
				continue leaps
			}
		}
		return greatest, true
	}
}

// descend goes down to the variable's last depth in each pattern, if v stands on all of them.
func (l level) descend(v api.Value) bool {
	return every(l, func(s strand) bool {
		for s.cursor.Depth() < s.foot {
			if !sink(s.cursor, v) {
				return false
			}
		}
		return true
	})
}

// leave goes up to where first came from.
func (l level) leave() {
	for _, s := range l {
		rise(s.cursor, s.head-1)
	}
}

func rise(c *triples.Cursor, depth int) {
	for c.Depth() > depth {
		c.Up()
	}
}

// sink goes down to v, and tells whether it stands below where the cursor stood.
func sink(c *triples.Cursor, v api.Value) bool {
	if !c.Open() || !c.Seek(v) {
		return false
	}
	key, _ := c.Key()
	return value.Same(key, v)
}
