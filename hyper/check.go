package hyper

import (
	"iter"
	"slices"

	"diptych/api"
)

// isDecomposition tells whether l is a decomposition of g.
func (g hypergraph) isDecomposition(l []api.Bag, width int) bool {
	var t tree
	var met set[variable]
	for _, b := range l {
		vars, ok := g.bagVars(b, width)
		above, there := t.above(b.Parent)
		if !ok || !there || vars&^above&met != 0 { // a second bag whose parent has not the variable
			return false
		}
		met |= vars
		t = append(t, bag{vars, b.Parent})
	}
	return len(t) > 0 && !slices.ContainsFunc(g.edges, func(e set[variable]) bool { return !t.has(e) })
}

// bagVars tells the variables of b, and whether they and its edges may be in a bag.
func (g hypergraph) bagVars(b api.Bag, width int) (set[variable], bool) {
	edges, ok := rising[edge](slices.Values(b.Edges), len(g.edges))
	if !ok || edges.size() > width {
		return 0, false
	}
	vars, ok := rising[variable](g.numbers(b.Vars), len(g.names))
	return vars, ok && vars.within(g.union(edges))
}

// numbers yields the numbers of variables, below 0 for what is none.
func (g hypergraph) numbers(names []string) iter.Seq[int] {
	return func(yield func(int) bool) {
		for _, name := range names {
			if !yield(slices.Index(g.names, name)) {
				return
			}
		}
	}
}
