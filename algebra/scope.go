package algebra

import (
	"slices"

	"diptych/api"
	"diptych/expr"
)

// node is a plan where it stands.
type node struct {
	plan  api.Plan
	vars  []string // its variables
	there []string // those that its expressions may have
	in    []node
	asked []node // the plans of its expressions
}

// read tells p with its variables, and whether it may be; of what may not be it tells what it likes.
func read(p api.Plan) (node, bool) {
	if !isSound(p) {
		return node{}, false
	}
	root := grown(p, nil)
	for _, n := range whole(root, node.below) {
		if !n.isInScope() {
			return root, false
		}
	}
	return root, true
}

// grown tells p, which is sound, with its variables; units are those of its PUnits.
func grown(p api.Plan, units []string) node {
	n := node{plan: p}
	n.in = mapped(p.In, func(in api.Plan) node { return grown(in, units) })
	n.there = union(mapped(n.in, node.variables)...)
	n.vars = n.own(units)
	if p.Op == api.PMatch {
		n.there = n.vars
	}
	n.asked = mapped(plansAsked(p), func(asked api.Plan) node { return grown(asked, n.there) })
	return n
}

// own tells n's variables, if those that are there are its In's.
func (n node) own(units []string) []string {
	p := n.plan
	switch p.Op {
	case api.PUnit:
		return units
	case api.PValues, api.PProject, api.PGroup:
		return slices.Concat(p.Vars, aggVars(p))
	case api.PBgp:
		return union(patternVars(p))
	case api.PMatch:
		return union(n.there, spotVars(p), edges(p))
	case api.PExtend, api.PUnwind:
		return union(n.there, []string{p.Var})
	case api.PMinus:
		return n.in[0].vars
	}
	return n.there
}

// union tells the names of all lists, each once; of too many one more than there may be, so that lists stay short.
func union(lists ...[]string) []string {
	var names []string
	for _, name := range slices.Concat(lists...) {
		if len(names) <= api.MaxVars && !slices.Contains(names, name) {
			names = append(names, name)
		}
	}
	return names
}

// isInScope tells whether n has the variables that it asks for, makes none anew that is there, and has not too many.
func (n node) isInScope() bool {
	p := n.plan
	return len(n.vars) <= api.MaxVars && !n.makesAgain() && (p.Op != api.PGroup || n.hasThere(p.Vars)) &&
		(p.Lang == api.LangS || every(expressions(p), func(e api.Expr) bool { return n.hasThere(expr.Vars(e)) }))
}

// makesAgain tells whether n gives a name to what it makes that one of its In's variables has.
func (n node) makesAgain() bool {
	switch n.plan.Op {
	case api.PMatch:
		return slices.ContainsFunc(edges(n.plan), n.in[0].has)
	case api.PExtend, api.PUnwind:
		return n.in[0].has(n.plan.Var)
	}
	return false
}

func (n node) has(name string) bool {
	return slices.Contains(n.vars, name)
}

func (n node) hasThere(names []string) bool {
	return every(names, func(name string) bool { return slices.Contains(n.there, name) })
}

func (n node) variables() []string {
	return n.vars
}

func (n node) ins() []node {
	return n.in
}

func (n node) below() []node {
	return slices.Concat(n.in, n.asked)
}

func spotVars(p api.Plan) []string {
	return mapped(p.Spots, func(s api.Spot) string { return s.Var })
}

func edges(p api.Plan) []string {
	return mapped(p.Hops, func(h api.Hop) string { return h.Edge })
}

func aggVars(p api.Plan) []string {
	return mapped(p.Aggs, func(a api.Agg) string { return a.Var })
}

// patternVars tells the variables of p's patterns as they come.
func patternVars(p api.Plan) []string {
	var names []string
	for _, pattern := range p.Bgp {
		for _, part := range [...]api.Value{pattern.S, pattern.P, pattern.O} {
			if part.Kind == api.KNull {
				names = append(names, part.Text)
			}
		}
	}
	return names
}
