package hyper

import (
	"slices"
	"strings"

	"diptych/api"
)

const noParent = -1

// tree is the bags of a decomposition, each behind its parent.
type tree []bag

type bag struct {
	vars   set[variable]
	parent int
}

// laid tells the tree with a variable more, in one bag with others; these are in one bag already. No bag is ever within another one.
func (t tree) laid(v variable, others set[variable]) tree {
	if i := slices.IndexFunc(t, func(b bag) bool { return b.vars == others }); i >= 0 {
		t[i].vars = others.with(v)
		return t
	}
	parent := slices.IndexFunc(t, func(b bag) bool { return others.within(b.vars) })
	return append(t, bag{others.with(v), parent})
}

// above tells the variables of the parent of a bag behind those of t, and whether that bag may have this parent.
func (t tree) above(parent int) (set[variable], bool) {
	if len(t) == 0 {
		return 0, parent == noParent
	}
	if parent < 0 || parent >= len(t) {
		return 0, false
	}
	return t[parent].vars, true
}

// has tells whether vars are all in some bag.
func (t tree) has(vars set[variable]) bool {
	return slices.ContainsFunc(t, func(b bag) bool { return vars.within(b.vars) })
}

// bag tells a bag as the face has it, in new memory.
func (g hypergraph) bag(b bag, edges set[edge]) api.Bag {
	told := api.Bag{Parent: b.parent}
	for v := range b.vars.all() {
		told.Vars = append(told.Vars, strings.Clone(g.names[v]))
	}
	for e := range edges.all() {
		told.Edges = append(told.Edges, int(e))
	}
	return told
}
