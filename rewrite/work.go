package rewrite

import "diptych/api"

// work is a plan's rewriting.
type work struct {
	rules []rule
	cost  int  // of the whole plan, as it stands by now
	moved bool // whether a rule has changed anything in this pass
}

// givenUp is what a rule panics with where it may not be followed.
type givenUp struct{}

func need(holds bool) {
	if !holds {
		panic(givenUp{})
	}
}

// rewritten tells p when there is nothing left in it for the rules. It is gone through again as long as it changes: a filter that is too great to be copied may be copied where the plan has become smaller.
func rewritten(p api.Plan, rules int) api.Plan {
	w := &work{cost: planCost(p)}
	w.rules = w.chosen(rules)
	for {
		w.moved = false
		p = fold(p, plansOf, func(q api.Plan, in []api.Plan) api.Plan {
			q.In = in
			return w.settled(q)
		})
		if !w.moved {
			return p
		}
	}
}

// settled tells p, in whose In there is nothing left for the rules, when there is nothing left at its top either.
func (w *work) settled(p api.Plan) api.Plan {
	for {
		next, ok := w.step(p)
		if !ok {
			return p
		}
		p = next
		p.In = mapped(p.In, w.settled)
	}
}

// step tells what the first rule that may be followed makes of p.
func (w *work) step(p api.Plan) (api.Plan, bool) {
	for _, r := range w.rules {
		if next, ok := followed(r, p); ok {
			w.cost += planCost(next) - planCost(p)
			w.moved = true
			return next, true
		}
	}
	return api.Plan{}, false
}

// followed tells what r makes of p, and whether it may be followed there.
func followed(r rule, p api.Plan) (next api.Plan, ok bool) {
	defer func() {
		if recover() != nil {
			next, ok = api.Plan{}, false
		}
	}()
	return r(p), true
}
