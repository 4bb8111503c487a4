package triples

import (
	"sort"

	"diptych/api"
)

// Orders of parts.
const (
	spo = iota
	sop
	pso
	pos
	osp
	ops
	orders
)

func orderNamed(name string) (order int, ok bool) {
	switch name {
	case "spo":
		return spo, true
	case "sop":
		return sop, true
	case "pso":
		return pso, true
	case "pos":
		return pos, true
	case "osp":
		return osp, true
	case "ops":
		return ops, true
	}
	return 0, false
}

// levelsOf tells the part that stands on each level.
func levelsOf(order int) [parts]int {
	levels := [orders][parts]int{
		spo: {subject, predicate, object},
		sop: {subject, object, predicate},
		pso: {predicate, subject, object},
		pos: {predicate, object, subject},
		osp: {object, subject, predicate},
		ops: {object, predicate, subject},
	}
	return levels[order]
}

// span is a stretch of places in a cursor's list, without the last one.
type span struct {
	at, end int
}

func (s span) isEmpty() bool {
	return s.at >= s.end
}

// here tells the places from the cursor's own to its level's end; it is not above the tree.
func (c *Cursor) here() span {
	return c.spans[c.depth-1]
}

func (c *Cursor) atValue() bool {
	return c.depth > 0 && !c.here().isEmpty()
}

// below tells the places of all triples that have the values down to where the cursor stands; at an end there are none.
func (c *Cursor) below() span {
	if c.depth == 0 {
		return span{0, len(c.list)}
	}
	here := c.here()
	return span{here.at, gallop(here, c.holds)}
}

// pass goes on past the places that passes holds for, and tells whether there is a value behind them.
func (c *Cursor) pass(passes func(place int) bool) bool {
	if !c.atValue() {
		return false
	}
	c.spans[c.depth-1].at = gallop(c.here(), passes)
	return c.atValue()
}

// numberAt tells the number of the value that stands at this place of the cursor's level.
func (c *Cursor) numberAt(place int) int {
	return c.store.triples[c.list[place]][c.levels[c.depth-1]]
}

func (c *Cursor) valueAt(place int) api.Value {
	return c.store.values[c.numberAt(place)]
}

// holds tells whether the value at which the cursor stands stands at this place, too.
func (c *Cursor) holds(place int) bool {
	return c.numberAt(place) == c.numberAt(c.here().at)
}

// target is a value that a cursor seeks.
type target struct {
	c *Cursor
	v api.Value
}

// isAhead tells whether what stands at this place is below the target.
func (t target) isAhead(place int) bool {
	return compareValues(t.c.valueAt(place), t.v) < 0
}

// gallop tells the first place of s that passes does not hold for, or its end. It must hold for no place behind one that it does not hold for.
func gallop(s span, passes func(place int) bool) int {
	if s.isEmpty() || !passes(s.at) {
		return s.at
	}
	passed, stride := s.at, 1
	for passed+stride < s.end && passes(passed+stride) {
		passed += stride
		stride *= 2
	}
	first := passed + 1
	left := min(passed+stride, s.end) - first
	return first + sort.Search(left, func(i int) bool { return !passes(first + i) })
}
