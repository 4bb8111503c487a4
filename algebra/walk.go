package algebra

import (
	"iter"
	"slices"

	"diptych/api"
)

// whole tells root and all below it, with how deep each lies, each ahead of what is below it.
func whole[T any](root T, below func(T) []T) iter.Seq2[int, T] {
	return func(yield func(int, T) bool) {
		walk(0, root, below, yield)
	}
}

// walk tells whether yield wants more.
func walk[T any](deep int, at T, below func(T) []T, yield func(int, T) bool) bool {
	if !yield(deep, at) {
		return false
	}
	for _, next := range below(at) {
		if !walk(deep+1, next, below, yield) {
			return false
		}
	}
	return true
}

// plansIn tells the plans right within p: its In, then those of its expressions.
func plansIn(p api.Plan) []api.Plan {
	return slices.Concat(p.In, plansAsked(p))
}

// plansAsked tells the plans of the EExists in p's expressions.
func plansAsked(p api.Plan) []api.Plan {
	var plans []api.Plan
	for e := range parts(p) {
		plans = append(plans, e.Plan...)
	}
	return plans
}

// parts tells p's expressions, and those in them.
func parts(p api.Plan) iter.Seq[api.Expr] {
	return func(yield func(api.Expr) bool) {
		for _, e := range expressions(p) {
			for _, part := range whole(e, args) {
				if !yield(part) {
					return
				}
			}
		}
	}
}

func args(e api.Expr) []api.Expr {
	return e.Args
}

// expressions tells those that p has itself.
func expressions(p api.Plan) []api.Expr {
	aggs := mapped(p.Aggs, func(a api.Agg) api.Expr { return a.E })
	return slices.Concat(p.E, sortKeys(p), aggs)
}

func sortKeys(p api.Plan) []api.Expr {
	return mapped(p.Sorts, func(s api.Sort) api.Expr { return s.E })
}

func mapped[A, B any](l []A, tell func(A) B) []B {
	var told []B
	for _, a := range l {
		told = append(told, tell(a))
	}
	return told
}

func every[A any](l []A, holds func(A) bool) bool {
	for _, a := range l {
		if !holds(a) {
			return false
		}
	}
	return true
}
