package hyper

import "slices"

// known keeps what has been found, by what was asked.
type known[K comparable, V any] map[K]V

// of tells what find tells of key, which it is asked once.
func (k known[K, V]) of(key K, find func() V) V {
	v, there := k[key]
	if !there {
		v = find()
		k[key] = v
	}
	return v
}

// search takes the variables of a hypergraph out one by one. Each decomposition is no narrower than one that such a way makes.
type search struct {
	g      hypergraph
	covers known[set[variable], set[edge]]
	widths known[set[variable], int]
}

func newSearch(g hypergraph) search {
	return search{g, known[set[variable], set[edge]]{}, known[set[variable], int]{}}
}

// rest is what is left when variables are taken out: the same, whichever of them was ahead.
type rest struct {
	vars  set[variable]
	edges []set[variable]
}

// whole is the rest when nothing is taken out.
func (s search) whole() rest {
	return rest{below[variable](len(s.g.names)), s.g.edges}
}

// without takes v out: the edges that have it become one, and with v in it that one is the bag.
func (r rest) without(v variable) (vars set[variable], after rest) {
	after.vars = r.vars.without(v)
	for _, e := range r.edges {
		if e.has(v) {
			vars |= e
		} else {
			after.edges = append(after.edges, e)
		}
	}
	after.edges = append(after.edges, vars.without(v))
	return vars, after
}

// width tells the least width of all ways to take out what is left.
func (s search) width(r rest) int {
	return s.widths.of(r.vars, func() int {
		least := 0 // none is known yet: a bag with a variable has an edge
		for v := range r.vars.all() {
			if n := s.widthBy(r, v); least == 0 || n < least {
				least = n
			}
		}
		return least
	})
}

// widthBy tells the least width of those ways that take v out first.
func (s search) widthBy(r rest, v variable) int {
	vars, after := r.without(v)
	return max(s.cover(vars).size(), s.width(after))
}

// cover tells as few edges as may be that have all of vars. One of them has the first of vars, whatever the others are.
func (s search) cover(vars set[variable]) set[edge] {
	return s.covers.of(vars, func() set[edge] {
		var least set[edge] // none is known yet: a variable has an edge
		for i, e := range s.g.edges {
			if vars == 0 || !e.has(vars.first()) {
				continue
			}
			edges := s.cover(vars &^ e).with(edge(i))
			if least == 0 || edges.size() < least.size() {
				least = edges
			}
		}
		return least
	})
}

// tree tells a decomposition of what is left, for which the width must be enough: of the variables that may be taken out, the first one of order is.
func (s search) tree(r rest, order []variable, width int) tree {
	for _, v := range order {
		if r.vars.has(v) && s.widthBy(r, v) <= width {
			vars, after := r.without(v)
			return s.tree(after, order, width).laid(v, vars.without(v))
		}
	}
	return tree{{parent: noParent}}
}

// turned tells the numbers below n in an order that the seed chooses: each order is that of some seed.
func turned(n, seed int) []variable {
	left := slices.Collect(below[variable](n).all())
	var order []variable
	for choice := uint64(seed); len(left) > 0; {
		many := uint64(len(left))
		i := int(choice % many)
		choice /= many
		order = append(order, left[i])
		left = slices.Delete(left, i, i+1)
	}
	return order
}
