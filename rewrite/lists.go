package rewrite

import (
	"slices"

	"diptych/api"
)

func every[T any](l []T, holds func(T) bool) bool {
	for _, v := range l {
		if !holds(v) {
			return false
		}
	}
	return true
}

// mapped tells what tell makes of each of l, in a list of its own.
func mapped[A, B any](l []A, tell func(A) B) []B {
	told := slices.Grow([]B(nil), len(l)) // nil of none
	for _, v := range l {
		told = append(told, tell(v))
	}
	return told
}

// A copier lays plans out in new lists; it tells what becomes of their texts.
type copier func(string) string

func asItIs(s string) string { return s }

func (c copier) plan(p api.Plan) api.Plan {
	return fold(p, plansOf, func(q api.Plan, in []api.Plan) api.Plan {
		q.In = in
		q.Var, q.Vars = c(q.Var), mapped(q.Vars, c)
		q.Rows, q.Bgp = mapped(q.Rows, c.row), mapped(q.Bgp, c.pattern)
		q.Spots, q.Hops = mapped(q.Spots, c.spot), mapped(q.Hops, c.hop)
		q.E, q.Aggs, q.Sorts = mapped(q.E, c.expr), mapped(q.Aggs, c.agg), mapped(q.Sorts, c.sort)
		return q
	})
}

func (c copier) expr(e api.Expr) api.Expr {
	return fold(e, argsOf, func(e api.Expr, args []api.Expr) api.Expr {
		e.Args, e.Match, e.Group = args, nil, nil // they have been checked to be empty; there may be room behind
		e.Text, e.V, e.Plan = c(e.Text), c.value(e.V), mapped(e.Plan, c.plan)
		return e
	})
}

func (c copier) row(row []api.Value) []api.Value {
	return mapped(row, c.value)
}

func (c copier) value(v api.Value) api.Value {
	v.Text, v.Extra, v.List = c(v.Text), c(v.Extra), mapped(v.List, c.value)
	return v
}

func (c copier) pattern(q api.Pattern) api.Pattern {
	return api.Pattern{S: c.value(q.S), P: c.value(q.P), O: c.value(q.O)}
}

func (c copier) spot(s api.Spot) api.Spot {
	return api.Spot{Var: c(s.Var), Labels: mapped(s.Labels, c)}
}

func (c copier) hop(h api.Hop) api.Hop {
	return api.Hop{From: c(h.From), Edge: c(h.Edge), To: c(h.To), Types: mapped(h.Types, c), Dir: h.Dir}
}

func (c copier) agg(a api.Agg) api.Agg {
	return api.Agg{Var: c(a.Var), E: c.expr(a.E)}
}

func (c copier) sort(s api.Sort) api.Sort {
	return api.Sort{E: c.expr(s.E), Down: s.Down}
}
