package algebra

import (
	"slices"

	"diptych/api"
	"diptych/expr"
	"diptych/rows"
	"diptych/triples"
	"diptych/value"
)

// What an Op may have beside its In and E.
const (
	hasVar = 1 << iota
	hasVars
	hasRows
	hasBgp
	hasSpots
	hasHops
	hasFlag
	hasAggs
	hasSorts
	hasSlice
)

// The languages of an Op.
const (
	onlyC = 1 << api.LangC
	onlyS = 1 << api.LangS
	both  = onlyC | onlyS
)

// shape is what an Op has.
type shape struct {
	langs int
	ins   int
	exprs int // PMatch with Flag: one more, if it likes
	has   int
}

var shapes = [...]shape{
	api.PUnit:     {both, 0, 0, 0},
	api.PValues:   {both, 0, 0, hasVars | hasRows},
	api.PBgp:      {onlyS, 0, 0, hasBgp},
	api.PMatch:    {onlyC, 1, 0, hasSpots | hasHops | hasFlag},
	api.PJoin:     {both, 2, 0, 0},
	api.PLeft:     {both, 2, 1, 0},
	api.PUnion:    {both, 2, 0, 0},
	api.PMinus:    {both, 2, 0, 0},
	api.PFilter:   {both, 1, 1, 0},
	api.PExtend:   {both, 1, 1, hasVar},
	api.PUnwind:   {both, 1, 1, hasVar},
	api.PGroup:    {both, 1, 0, hasVars | hasAggs},
	api.PDistinct: {both, 1, 0, 0},
	api.POrder:    {both, 1, 0, hasSorts},
	api.PSlice:    {both, 1, 0, hasSlice},
	api.PProject:  {both, 1, 0, hasVars},
}

// isSound tells whether all plans in p have what their Ops name, and are no more than there may be; which variables there are is not asked.
func isSound(p api.Plan) bool {
	count := 0
	for _, plan := range whole(p, plansIn) {
		if count++; count > api.MaxParts || plan.Lang != p.Lang || !fits(plan) {
			return false
		}
		for range parts(plan) {
			if count++; count > api.MaxParts {
				return false
			}
		}
	}
	return true
}

// fits tells whether p has what its Op names; its In are counted alone.
func fits(p api.Plan) bool {
	if p.Op <= api.PNone || p.Op >= len(shapes) {
		return false
	}
	s := shapes[p.Op]
	return s.langs&(1<<uint(p.Lang)) != 0 && len(p.In) == s.ins && had(p)&^s.has == 0 &&
		(len(p.E) == s.exprs || p.Flag && len(p.E) == 1) && detailsFit(p) && expressionsFit(p)
}

// had tells what p has beside its In and E.
func had(p api.Plan) int {
	has := 0
	for i, there := range [...]bool{
		p.Var != "", len(p.Vars) > 0, len(p.Rows) > 0, len(p.Bgp) > 0, len(p.Spots) > 0, len(p.Hops) > 0,
		p.Flag, len(p.Aggs) > 0, len(p.Sorts) > 0, p.Skip != 0 || p.Limit != 0,
	} {
		if there {
			has |= 1 << i
		}
	}
	return has
}

func detailsFit(p api.Plan) bool {
	switch p.Op {
	case api.PValues:
		return rows.Check(api.Table{Vars: p.Vars, Rows: p.Rows})
	case api.PBgp:
		return len(p.Bgp) <= api.MaxVars && every(p.Bgp, isPattern)
	case api.PMatch:
		return isPath(p)
	case api.PExtend, api.PUnwind:
		return areVars([]string{p.Var})
	case api.PGroup, api.PProject:
		return areVars(slices.Concat(p.Vars, aggVars(p)))
	case api.POrder:
		return len(p.Sorts) >= 1 && len(p.Sorts) <= api.MaxVars
	case api.PSlice:
		return p.Skip >= -1 && p.Limit >= -1
	}
	return true
}

// areVars tells whether names are such, all unlike, and no more than a plan may have: what is asked of a table's.
func areVars(names []string) bool {
	return rows.Check(api.Table{Vars: names})
}

// isPattern tells whether p would be a triple, had it values for its variables.
func isPattern(p api.Pattern) bool {
	return triples.Check(api.Triple{S: valued(p.S), P: valued(p.P), O: valued(p.O)})
}

// valued tells v, or, if it is a variable, what may stand in each place of a triple.
func valued(v api.Value) api.Value {
	if value.Same(v, api.Value{Text: v.Text}) && areVars([]string{v.Text}) {
		return api.Value{Kind: api.KIri, Text: v.Text}
	}
	return v
}

// isPath tells whether p's Spots and Hops may be.
func isPath(p api.Plan) bool {
	spots := spotVars(p)
	return len(spots) >= 1 && areVars(slices.Concat(spots, edges(p))) &&
		every(p.Spots, func(s api.Spot) bool { return every(s.Labels, isWord) }) &&
		every(p.Hops, func(h api.Hop) bool {
			return slices.Contains(spots, h.From) && slices.Contains(spots, h.To) &&
				h.Dir >= -1 && h.Dir <= 1 && every(h.Types, isWord)
		})
}

// isWord tells whether a label or type may be.
func isWord(s string) bool {
	return s != "" && len(s) <= api.MaxText
}

// expressionsFit tells whether p's expressions may be; aggregates are PGroup's Aggs, and nothing else is.
func expressionsFit(p api.Plan) bool {
	return every(expressions(p), func(e api.Expr) bool {
		return expr.Check(p.Lang, e) && (e.Op == api.EAgg) == (p.Op == api.PGroup) &&
			(e.Op == api.EAgg || !expr.HasAgg(e))
	})
}
