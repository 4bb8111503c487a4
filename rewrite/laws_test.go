package rewrite

import (
	"fmt"
	"iter"
	"math/rand"
	"slices"
	"strings"
	"testing"

	"diptych/algebra"
	"diptych/api"
	"diptych/expr"
)

// everywhere tells p and all plans in it, but for those of EExists.
func everywhere(p api.Plan) iter.Seq[api.Plan] {
	return func(yield func(api.Plan) bool) { goThrough(p, yield) }
}

func goThrough(p api.Plan, yield func(api.Plan) bool) bool {
	return yield(p) && !slices.ContainsFunc(p.In, func(q api.Plan) bool { return !goThrough(q, yield) })
}

// nothingLeft tells whether in p there is none left of what the chapter names for the rules.
func nothingLeft(p api.Plan, rules int) bool {
	room := api.MaxParts - Cost(p)
	for q := range everywhere(p) {
		for _, bit := range []int{api.RuleFold, api.RuleMerge, api.RuleLeft, api.RulePush, api.RulePrune} {
			if rules&bit != 0 && isLeft(room, q, bit) {
				return false
			}
		}
	}
	return true
}

// isLeft tells whether q is a plan of which, by the chapter's words, none is left where there is room for so many parts more.
func isLeft(room int, q api.Plan, bit int) bool {
	switch bit {
	case api.RuleFold:
		if q.Op != api.PFilter || q.E[0].Op != api.ELit {
			return false
		}
		isEmpty := q.In[0].Op == api.PValues && len(q.In[0].Rows) == 0
		return alike(asPlan(q.E[0]), asPlan(yes)) && q.In[0].Op != api.POrder || alike(asPlan(q.E[0]), asPlan(no)) && !isEmpty && (q.Lang == api.LangS || !hasExpressions(q.In[0]))
	case api.RuleMerge:
		return len(q.In) == 1 && q.In[0].Op == q.Op && canMerge(q, q.In[0])
	case api.RuleLeft:
		if q.Op != api.PLeft {
			return false
		}
		isNothing := q.In[1].Op == api.PUnit || q.In[1].Op == api.PValues && len(q.In[1].Rows)+len(q.In[1].Vars) == 0
		return alike(asPlan(q.E[0]), asPlan(yes)) && q.In[0].Op != api.POrder && isNothing
	case api.RulePush:
		return q.Lang == api.LangS && q.Op == api.PFilter && q.In[0].Op == api.PUnion && !hasExists(q.E[0]) && 1+size(q.E[0]) <= room
	case api.RulePrune:
		return q.Op == api.PProject && q.In[0].Op == api.PExtend && !slices.Contains(q.Vars, q.In[0].Var) && (q.Lang == api.LangS || expr.Safe(q.Lang, q.In[0].E[0]))
	}
	return false
}

// asPlan tells a plan with e in it, to hold it against another one.
func asPlan(e api.Expr) api.Plan { return api.Plan{E: []api.Expr{e}} }

func hasExpressions(p api.Plan) bool {
	for q := range everywhere(p) {
		if len(q.E)+len(q.Aggs)+len(q.Sorts) > 0 {
			return true
		}
	}
	return false
}

func hasExists(e api.Expr) bool {
	return e.Op == api.EExists || slices.ContainsFunc(e.Args, hasExists)
}

// size tells how many expressions there are in e, without those of plans within.
func size(e api.Expr) int {
	n := 1
	for _, arg := range e.Args {
		n += size(arg)
	}
	return n
}

func canMerge(q, below api.Plan) bool {
	switch q.Op {
	case api.PProject:
		return !slices.ContainsFunc(q.Vars, func(name string) bool { return !slices.Contains(below.Vars, name) })
	case api.PFilter:
		return q.Lang == api.LangS && expr.Check(q.Lang, op(api.EAnd, below.E[0], q.E[0]))
	}
	return q.Op == api.PDistinct
}

// maker makes plans, expressions and data by chance: plans that the rules are for more often than others.
type maker struct {
	*rand.Rand
	lang int
}

func pick[T any](k maker, l ...T) T { return l[k.Intn(len(l))] }

func (k maker) name() string { return pick(k, "a", "b", "c", "x", "y", "z") }

func (k maker) value() api.Value {
	if k.lang == api.LangS {
		return pick(k, none, num(1), num(2), dec("1.0"), iri("a"), iri("b"), text("a"), blank("q"), truth(true), tagged("a", "en"), list(num(1)))
	}
	return pick(k, none, num(1), num(2), dec("1.0"), node(0), node(1), text("a"), truth(true), list(num(1), none), list())
}

func some[T any](n int, f func() T) []T {
	var l []T
	for range n {
		l = append(l, f())
	}
	return l
}

func namesOf(lists ...[]string) []string {
	var l []string
	for _, name := range slices.Concat(lists...) {
		if !slices.Contains(l, name) {
			l = append(l, name)
		}
	}
	return l
}

// variable tells one of those that are there, in S sometimes another one.
func (k maker) variable(there []string) api.Expr {
	if len(there) == 0 || k.lang == api.LangS && k.Intn(12) == 0 {
		if k.lang == api.LangC {
			return lit(k.value())
		}
		return at(k.name())
	}
	return at(pick(k, there...))
}

func (k maker) condition(deep int, there []string) api.Expr {
	if k.Intn(3) == 0 {
		return pick(k, yes, yes, no)
	}
	if deep > 0 && k.Intn(4) == 0 {
		return op(pick(k, api.EAnd, api.EOr), k.condition(deep-1, there), k.condition(deep-1, there))
	}
	switch k.Intn(6) {
	case 0:
		return op(api.ENot, k.condition(0, there))
	case 1:
		return api.Expr{Op: api.EIsNull, Flag: k.Intn(2) == 0, Args: []api.Expr{k.variable(there)}}
	case 2:
		e := exists(k.plan(deep-1, there))
		e.Flag = k.Intn(2) == 0
		return e
	}
	return op(pick(k, api.EEq, api.ENe, api.ELt, api.EGe), k.scalar(0, there), k.variable(there))
}

// scalar tells an expression of whatever value; now and then it errs.
func (k maker) scalar(deep int, there []string) api.Expr {
	switch k.Intn(10) {
	case 0:
		return op(pick(k, api.EAdd, api.EDiv), k.variable(there), lit(num(int64(k.Intn(5)))))
	case 1:
		return k.condition(deep, there)
	case 2, 3:
		return lit(k.value())
	case 4:
		return call("coalesce", k.variable(there), lit(k.value()))
	}
	return k.variable(there)
}

// vars tells the variables of a plan whose PUnits have these.
func (k maker) vars(p api.Plan, units []string) []string {
	held := p
	if len(units) > 0 {
		held = withUnits(p, values(strings.Join(units, " ")))
	}
	return algebra.Vars(in(k.lang, held))
}

func withUnits(p, unit api.Plan) api.Plan {
	if p.Op == api.PUnit {
		return unit
	}
	p.In = mapped(p.In, func(q api.Plan) api.Plan { return withUnits(q, unit) })
	return p
}

// plan tells a plan whose PUnits have these variables; it may be one that may not be.
func (k maker) plan(deep int, units []string) api.Plan {
	if deep <= 0 || k.Intn(9) == 0 {
		return k.leaf(units)
	}
	deep--
	a := k.plan(deep, units)
	there := k.vars(a, units)
	switch k.Intn(16) {
	case 0, 1:
		return pick(k, join, both, both, minus)(a, k.plan(deep, units))
	case 2:
		if k.Intn(3) > 0 {
			return left(a, pick(k, unit(), empty(""), values("", row()), filter(unit(), no)), pick(k, yes, yes, no))
		}
		b := k.plan(deep, units)
		return left(a, b, k.condition(deep, namesOf(there, k.vars(b, units))))
	case 3, 4, 5, 6:
		return filter(a, k.condition(deep, there))
	case 7, 8:
		return k.extended(deep, a, there)
	case 9:
		return groupBy(a, strings.Join(there[:k.Intn(len(there)+1)], " "), pick(k, agg("count"), agg("max", k.scalar(deep, there)), agg("sum", k.scalar(deep, there))))
	case 10, 11:
		return distinct(a)
	case 12:
		return order(a, some(1+k.Intn(2), func() api.Expr { return k.scalar(deep, there) })...)
	case 13:
		if k.Intn(2) == 0 {
			a = order(a, k.scalar(deep, there))
		}
		if k.Intn(3) == 0 {
			a = filter(a, yes)
		}
		return slice(a, int64(k.Intn(4)-1), int64(k.Intn(5)-1))
	case 14:
		return project(a, strings.Join(namesOf(some(k.Intn(3), k.name)), " "))
	}
	if k.lang == api.LangS {
		return join(a, bgp(pick(k, "?x p ?y", "?a p ?b. ?b ?y c", "a ?x ?z")))
	}
	return k.path(deep, a, there)
}

// extended tells a with a variable or two more, of which a projection above may have none.
func (k maker) extended(deep int, a api.Plan, there []string) api.Plan {
	name := k.fresh(there)
	p := extend(a, name, k.scalar(deep, there))
	switch k.Intn(5) {
	case 0:
		return unwind(a, name, pick(k, lit(list(k.value(), k.value())), lit(list(k.value())), k.variable(there)))
	case 1, 2:
		return p
	}
	p = project(p, strings.Join(namesOf(some(k.Intn(3), k.name)), " "))
	if k.Intn(2) == 0 {
		return project(p, strings.Join(p.Vars[:k.Intn(len(p.Vars)+1)], " "))
	}
	return p
}

func (k maker) leaf(units []string) api.Plan {
	switch k.Intn(5) {
	case 0:
		return unit()
	case 1:
		if k.lang == api.LangS {
			return bgp(pick(k, "", "?x p ?y", "?a p ?b. ?b ?y c"))
		}
		return k.path(0, unit(), units)
	}
	p := values(strings.Join(namesOf(some(k.Intn(3), k.name)), " "))
	p.Rows = some(k.Intn(4), func() []api.Value { return some(len(p.Vars), k.value) })
	return p
}

// path tells a PMatch over a.
func (k maker) path(deep int, a api.Plan, there []string) api.Plan {
	p := match(a, k.name(), pick(k, "", "r", "s"))
	if k.Intn(3) == 0 {
		p.Flag = true
		p.E = some(k.Intn(2), func() api.Expr { return k.condition(deep, namesOf(there, []string{p.Spots[0].Var})) })
	}
	return p
}

// fresh tells a name that is not there, if it finds one.
func (k maker) fresh(there []string) string {
	for range 9 {
		if name := k.name(); !slices.Contains(there, name) {
			return name
		}
	}
	return "f"
}

// data tells some of both languages.
func (k maker) data() api.Data {
	d := data()
	k.Shuffle(len(d.T), func(i, j int) { d.T[i], d.T[j] = d.T[j], d.T[i] })
	d.T = d.T[:k.Intn(len(d.T)+1)]
	if k.Intn(5) == 0 {
		d.G = api.Graph{}
	}
	return d
}

// holds tells what P15.2 and P15.3 say of p and the rules, and how the plan ends over d.
func holds(t *testing.T, p api.Plan, rules int, d api.Data) (api.Table, api.Errno) {
	t.Helper()
	q := applied(t, p, rules)
	switch {
	case q.Lang != p.Lang || !slices.Equal(algebra.Vars(p), algebra.Vars(q)):
		t.Fatalf("other variables: rules %d%s%s", rules, short(p), short(q))
	case rules&api.RulePush == 0 && Cost(q) > Cost(p):
		t.Fatalf("dearer: rules %d%s%s", rules, short(p), short(q))
	case !nothingLeft(q, rules):
		t.Fatalf("something is left: rules %d%s%s\n%+v", rules, short(p), short(q), q)
	case rules == 0 && !alike(p, q):
		t.Fatalf("changed without rules:%s%s", short(p), short(q))
	}
	again := applied(t, q, rules)
	if !alike(q, again) {
		t.Fatalf("changed again: rules %d%s%s%s", rules, short(p), short(q), short(again))
	}
	got, err := meansTheSame(t, p, q, d)
	if t.Failed() {
		t.Fatalf("rules %d, over %+v\n%+v\n%+v", rules, d, p, q)
	}
	return got, err
}

// TestByChance: P15.2, P15.3: plans of all kinds mean the same, whatever the rules, and nothing is left in them.
func TestByChance(t *testing.T) {
	k := maker{Rand: rand.New(rand.NewSource(15))}
	ends := map[string]int{}
	for range 15000 {
		k.lang = k.Intn(2)
		p, d := in(k.lang, k.plan(1+k.Intn(5), nil)), k.data()
		if !algebra.Check(p) {
			ends["no plan"]++
			refused(t, p, api.RuleAll, api.ErrPlan)
			continue
		}
		if algebra.Size(p) > 25 {
			ends["too great"]++
			continue
		}
		rules := pick(k, api.RuleAll, 1<<k.Intn(5), api.RulePush, k.Intn(api.RuleAll+1))
		got, err := holds(t, p, rules, d)
		ends[fmt.Sprint(int(err), " ", len(got.Rows) > 0)]++
		for i := range 5 {
			if rules == 1<<i && Cost(applied(t, p, rules)) != Cost(p) {
				ends[fmt.Sprint("rule ", i)]++
			}
		}
	}
	for _, end := range []struct {
		name string
		n    int
	}{{"0 true", 5000}, {"0 false", 5000}, {"12 false", 400}, {"rule 0", 20}, {"rule 1", 100}, {"rule 2", 15}, {"rule 3", 40}, {"rule 4", 50}} {
		if ends[end.name] < end.n {
			t.Errorf("too little is tried: %v", ends)
		}
	}
}

// TestRulesInTurn: P15.3, T4: whichever rules are followed first.
func TestRulesInTurn(t *testing.T) {
	k := maker{Rand: rand.New(rand.NewSource(16))}
	for range 3000 {
		k.lang = k.Intn(2)
		p, d := in(k.lang, k.plan(1+k.Intn(4), nil)), k.data()
		if !algebra.Check(p) || algebra.Size(p) > 20 {
			continue
		}
		q := p
		for range 3 {
			rules := k.Intn(api.RuleAll + 1)
			before := q
			q = applied(t, q, rules)
			if !nothingLeft(q, rules) {
				t.Fatalf("something is left: rules %d%s%s", rules, short(before), short(q))
			}
		}
		meansTheSame(t, p, q, d)
		if t.Failed() {
			t.Fatalf("over %+v\n%+v\n%+v", d, p, q)
		}
	}
}
