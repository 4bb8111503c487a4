package rewrite

import "diptych/api"

// fold tells what tell makes of at and of what it has made of each part of it.
func fold[N, T any](at N, parts func(N) []N, tell func(N, []T) T) T {
	return tell(at, mapped(parts(at), func(part N) T { return fold(part, parts, tell) }))
}

func plansOf(p api.Plan) []api.Plan { return p.In }

func argsOf(e api.Expr) []api.Expr { return e.Args }

// planCost tells how many plans and expressions there are in p.
func planCost(p api.Plan) int {
	return fold(p, plansOf, func(q api.Plan, in []int) int {
		n := 1 + sum(in) + sum(mapped(q.E, exprCost))
		for _, a := range q.Aggs {
			n += exprCost(a.E)
		}
		for _, s := range q.Sorts {
			n += exprCost(s.E)
		}
		return n
	})
}

func exprCost(e api.Expr) int {
	return fold(e, argsOf, func(e api.Expr, args []int) int {
		return 1 + sum(args) + sum(mapped(e.Plan, planCost))
	})
}

// isBare tells whether there is no expression in p.
func isBare(p api.Plan) bool {
	return fold(p, plansOf, func(q api.Plan, in []bool) bool {
		return len(q.E)+len(q.Aggs)+len(q.Sorts) == 0 && every(in, isIt)
	})
}

// asksPlans tells whether there is an EExists in e.
func asksPlans(e api.Expr) bool {
	return !fold(e, argsOf, func(e api.Expr, args []bool) bool {
		return e.Op != api.EExists && every(args, isIt)
	})
}

func isIt(b bool) bool { return b }

func sum(l []int) int {
	n := 0
	for _, m := range l {
		n += m
	}
	return n
}
