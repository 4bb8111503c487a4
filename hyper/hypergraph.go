package hyper

import "slices"

const (
	maxEdges = 8
	maxVars  = 12
	maxName  = 64
)

// hypergraph is a hypergraph that may be.
type hypergraph struct {
	names []string        // of the variables, by number: in the order in which they come first
	edges []set[variable] // by number
}

// read tells the hypergraph of edges, and whether it may be.
func read(edges [][]string) (hypergraph, bool) {
	if len(edges) > maxEdges {
		return hypergraph{}, false
	}
	var g hypergraph
	for _, names := range edges {
		if !g.take(names) {
			return hypergraph{}, false
		}
	}
	return g, true
}

// take lays an edge behind the others, if it may be there.
func (g *hypergraph) take(names []string) bool {
	var vars set[variable]
	for _, name := range names {
		v, ok := g.number(name)
		if !ok || vars.has(v) {
			return false
		}
		vars = vars.with(v)
	}
	g.edges = append(g.edges, vars)
	return true
}

// number tells the number of a variable, which gets the next one if it is new and may be.
func (g *hypergraph) number(name string) (variable, bool) {
	if v := slices.Index(g.names, name); v >= 0 {
		return variable(v), true
	}
	if len(g.names) == maxVars || !isName(name) {
		return 0, false
	}
	g.names = append(g.names, name)
	return variable(len(g.names) - 1), true
}

func isName(s string) bool {
	if s == "" || len(s) > maxName {
		return false
	}
	for i := range len(s) {
		if !isLetter(s[i]) && (i == 0 || !isDigit(s[i])) {
			return false
		}
	}
	return true
}

func isLetter(c byte) bool {
	return c >= 'a' && c <= 'z' || c >= 'A' && c <= 'Z' || c == '_'
}

func isDigit(c byte) bool {
	return c >= '0' && c <= '9'
}

// union tells the variables of some of the edges.
func (g hypergraph) union(edges set[edge]) set[variable] {
	var vars set[variable]
	for e := range edges.all() {
		vars |= g.edges[e]
	}
	return vars
}

// isAcyclic tells whether edges come to nothing when ears are taken out; none that there is bars another one.
func isAcyclic(edges []set[variable]) bool {
	for i, e := range edges {
		others := slices.Delete(slices.Clone(edges), i, i+1)
		if isEar(e, others) {
			return isAcyclic(others)
		}
	}
	return len(edges) == 0
}

// isEar tells whether e can be taken out, as soon as the variables that it has alone have been.
func isEar(e set[variable], others []set[variable]) bool {
	var there set[variable]
	for _, other := range others {
		there |= other
	}
	shared := e & there
	return shared == 0 || slices.ContainsFunc(others, shared.within)
}
