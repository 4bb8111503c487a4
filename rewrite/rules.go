package rewrite

import (
	"slices"

	"diptych/algebra"
	"diptych/api"
	"diptych/expr"
)

// A rule tells what may stand in a plan's place: always a plan with the same variables, and a POrder just where one stood, since a PSlice above asks for that. It panics where it may not be followed.
type rule func(api.Plan) api.Plan

func (w *work) byBit() map[int]rule {
	return map[int]rule{
		api.RulePush:  w.pushed,
		api.RuleFold:  folded,
		api.RuleLeft:  withoutLeft,
		api.RulePrune: pruned,
		api.RuleMerge: merged,
	}
}

// chosen tells the rules of a mask: what drops a filter goes ahead of what makes a longer one of it, or copies it.
func (w *work) chosen(mask int) []rule {
	all := w.byBit()
	var l []rule
	for _, bit := range [...]int{api.RuleFold, api.RuleLeft, api.RulePrune, api.RuleMerge, api.RulePush} {
		if mask&bit != 0 {
			l = append(l, all[bit])
		}
	}
	return l
}

// folded drops a filter that all rows pass, and all below one that none passes.
func folded(p api.Plan) api.Plan {
	need(p.Op == api.PFilter)
	if isTruth(p.E[0], true) {
		need(p.In[0].Op != api.POrder)
		return p.In[0]
	}
	need(isTruth(p.E[0], false))
	need(p.Lang == api.LangS || isBare(p.In[0])) // in C there may be an error to tell
	return api.Plan{Op: api.PValues, Lang: p.Lang, Vars: algebra.Vars(p)}
}

// withoutLeft drops a left join whose second side adds nothing to any row.
func withoutLeft(p api.Plan) api.Plan {
	need(p.Op == api.PLeft && isTruth(p.E[0], true))
	need(p.In[0].Op != api.POrder)
	need(addsNothing(p.In[1]))
	return p.In[0]
}

func addsNothing(p api.Plan) bool {
	switch p.Op {
	case api.PUnit:
		return true
	case api.PValues:
		return len(p.Vars) == 0 && len(p.Rows) == 0
	}
	return false
}

// pruned drops an extension whose variable nobody asks for.
func pruned(p api.Plan) api.Plan {
	need(p.Op == api.PProject && p.In[0].Op == api.PExtend)
	in := p.In[0]
	need(!slices.Contains(p.Vars, in.Var))
	need(p.Lang == api.LangS || expr.Safe(p.Lang, in.E[0]))
	p.In = in.In
	return p
}

// merged makes one plan of two of the same kind.
func merged(p api.Plan) api.Plan {
	need(len(p.In) == 1)
	in := p.In[0]
	need(p.Op == in.Op)
	switch p.Op {
	case api.PDistinct:
	case api.PProject:
		need(every(p.Vars, func(name string) bool { return slices.Contains(in.Vars, name) }))
	case api.PFilter:
		p.E = []api.Expr{bothOf(p.Lang, in.E[0], p.E[0])}
	default:
		need(false)
	}
	p.In = in.In
	return p
}

// bothOf tells what is true just where a and b are. In C it could err where a is not true, and b would not be asked.
func bothOf(lang int, a, b api.Expr) api.Expr {
	need(lang == api.LangS)
	both := api.Expr{Op: api.EAnd, Args: []api.Expr{a, b}}
	need(expr.Check(lang, both))
	return both
}

// pushed puts a filter over both sides of a union, if there is room for one more of it. The plans of an EExists would have other variables there.
func (w *work) pushed(p api.Plan) api.Plan {
	need(p.Lang == api.LangS && p.Op == api.PFilter && p.In[0].Op == api.PUnion)
	need(!asksPlans(p.E[0]))
	need(w.cost+1+exprCost(p.E[0]) <= api.MaxParts)
	union := p.In[0]
	union.In = mapped(union.In, func(side api.Plan) api.Plan {
		p.In = []api.Plan{side}
		return p
	})
	return union
}

func isTruth(e api.Expr, b bool) bool {
	return e.Op == api.ELit && e.V.Kind == api.KBool && e.V.Bool == b
}
