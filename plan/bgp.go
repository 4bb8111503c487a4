package plan

import (
	"diptych/algebra"
	"diptych/api"
)

// bgp is the patterns of a PBgp.
type bgp []api.Pattern

// vars tells its variables, as they come first.
func (b bgp) vars() []string {
	return algebra.Vars(api.Plan{Op: api.PBgp, Lang: api.LangS, Bgp: b})
}

// edges tells the variables of each pattern, each once.
func (b bgp) edges() [][]string {
	var edges [][]string
	for i := range b {
		edges = append(edges, b[i:i+1].vars())
	}
	return edges
}

// bgpsOf tells the PBgps in p, as they are met.
func bgpsOf(p api.Plan) []bgp {
	var l meeting
	l.plan(p)
	return l
}

// meeting is the PBgps that have been met.
type meeting []bgp

func (l *meeting) plan(p api.Plan) {
	if p.Op == api.PBgp {
		*l = append(*l, p.Bgp)
	}
	for _, in := range p.In {
		l.plan(in)
	}
	for _, e := range p.E {
		l.expr(e)
	}
	for _, a := range p.Aggs {
		l.expr(a.E)
	}
	for _, s := range p.Sorts {
		l.expr(s.E)
	}
}

func (l *meeting) expr(e api.Expr) {
	for _, arg := range e.Args {
		l.expr(arg)
	}
	for _, p := range e.Plan {
		l.plan(p)
	}
}
