package rewrite

import (
	"slices"
	"strings"
	"testing"

	"diptych/algebra"
	"diptych/api"
)

// costs holds Cost of p in both languages.
func costs(t *testing.T, p api.Plan, want int) {
	t.Helper()
	for _, lang := range langs {
		costsIn(t, lang, p, want)
	}
}

func costsIn(t *testing.T, lang int, p api.Plan, want int) {
	t.Helper()
	if got := Cost(in(lang, p)); got != want {
		t.Errorf("language %d: %d; want %d of%s", lang, got, want, short(p))
	}
}

// xs are three rows of x and y.
func xs() api.Plan {
	return values("x y", row(num(1), num(2)), row(none, num(1)), row(num(1), none))
}

// zs are rows of other variables than xs.
func zs() api.Plan { return values("y z", row(num(2), num(3)), row(none, none)) }

func empty(names string) api.Plan { return values(names) }

// TestCost: P15.1.
func TestCost(t *testing.T) {
	costs(t, unit(), 1)
	costs(t, xs(), 1)
	costs(t, join(xs(), both(unit(), minus(xs(), unit()))), 7)
	costs(t, filter(unit(), yes), 3)
	costs(t, filter(unit(), op(api.EAnd, yes, op(api.ENot, no))), 6)
	costs(t, left(xs(), zs(), op(api.EEq, at("x"), at("z"))), 6)
	costs(t, extend(unwind(xs(), "l", at("x")), "m", call("coalesce", at("l"), at("x"), at("y"))), 8)
	costs(t, groupBy(xs(), "x", agg("count"), agg("max", op(api.EAdd, at("y"), lit(num(1))))), 7)
	costs(t, groupBy(xs(), "x y"), 2)
	costs(t, slice(order(distinct(project(xs(), "x")), at("x"), op(api.ENeg, at("x"))), 1, 2), 8)
	costsIn(t, api.LangS, bgp("?x p ?y. ?y q a"), 1)
	costsIn(t, api.LangC, match(unit(), "a", "r"), 2)
	optional := match(unit(), "a", "r")
	optional.Flag, optional.E = true, []api.Expr{op(api.EEq, at("a"), at("r"))}
	costsIn(t, api.LangC, optional, 5)
}

// TestCostOfPlansWithin: P15.1: those in EExists' plans count as well.
func TestCostOfPlansWithin(t *testing.T) {
	costs(t, filter(unit(), exists(unit())), 4)
	costs(t, filter(xs(), op(api.ENot, exists(filter(join(unit(), zs()), op(api.EEq, at("x"), at("z")))))), 11)
	costs(t, filter(unit(), exists(filter(unit(), exists(distinct(unit()))))), 8)
	costs(t, order(xs(), exists(unit())), 4)
	costs(t, groupBy(xs(), "", agg("max", exists(unit()))), 5)
	costs(t, left(xs(), zs(), op(api.EOr, exists(unit()), exists(distinct(unit())))), 9)
}

// badPlans are plans that may not be.
func badPlans() []api.Plan {
	return []api.Plan{
		{}, {Op: 17}, {Op: -1}, {Op: api.PUnit, Lang: 2}, {Op: api.PUnit, Var: "x"},
		filter(unit(), at("x")), filter(unit(), agg("count")), filter(unit(), api.Expr{}), {Op: api.PFilter, In: []api.Plan{unit()}}, {Op: api.PFilter, E: []api.Expr{yes}},
		join(unit(), in(api.LangS, unit())), bgp("?x p ?y"), in(api.LangS, match(unit(), "a", "")), slice(unit(), -2, 0), values("x", row()), values("x x"), values("1"),
		project(xs(), "x x"), extend(xs(), "x", yes), filter(unit(), exists(filter(unit(), at("x")))), distinct(filter(unit(), deep(61))), filter(distinct(project(project(unit(), "1"), "")), yes),
	}
}

// TestPlansThatMayNotBe: P15.1, P15.2: no cost, and ErrPlan, whatever the rules.
func TestPlansThatMayNotBe(t *testing.T) {
	for i, p := range badPlans() {
		if got := Cost(p); got != 0 {
			t.Errorf("%d: %d", i, got)
		}
		for _, rules := range []int{0, 1, api.RuleAll, -1, api.RuleAll + 1} {
			refused(t, p, rules, api.ErrPlan)
		}
	}
	most := chain(api.MaxParts-1, unit(), distinct)
	costs(t, most, api.MaxParts)
	costs(t, distinct(most), 0)
	refused(t, distinct(most), api.RuleAll, api.ErrPlan)
}

// chain puts n plans over p.
func chain(n int, p api.Plan, over func(api.Plan) api.Plan) api.Plan {
	for range n {
		p = over(p)
	}
	return p
}

// refused holds the error of Apply and that nothing is beside it.
func refused(t *testing.T, p api.Plan, rules int, want api.Errno) {
	t.Helper()
	got, err := Apply(p, rules)
	if err != want || !alike(got, api.Plan{}) {
		t.Errorf("rules %d: %d, %+v; want error %d of%s", rules, err, got, want, short(p))
	}
}

// TestRulesThatThereAreNot: P15.2.
func TestRulesThatThereAreNot(t *testing.T) {
	for _, rules := range []int{-1, -32, -1 << 63, 32, 33, 64, api.RuleAll + 1, 1 << 40, 1<<62 + 1, 1<<63 - 1} {
		refused(t, unit(), rules, api.ErrArg)
		refused(t, in(api.LangS, filter(xs(), yes)), rules, api.ErrArg)
	}
	for rules := range api.RuleAll + 1 {
		if got, err := Apply(unit(), rules); err != api.OK || !alike(got, unit()) {
			t.Errorf("rules %d: %d, %+v", rules, err, got)
		}
	}
}

// others are all rules but these.
func others(rules int) int { return api.RuleAll &^ rules }

// TestNoRules: P15.2: of rules 0 it is p.
func TestNoRules(t *testing.T) {
	p := distinct(distinct(project(project(extend(filter(filter(left(xs(), unit(), yes), yes), no), "v", yes), "x y"), "x")))
	stays(t, p, 0)
	stays(t, filter(both(xs(), zs()), isNull("y")), 0)
	for i, p := range plansOfAll() {
		if got := applied(t, p, 0); !alike(got, p) {
			t.Errorf("%d: %+v; want %+v", i, got, p)
		}
	}
}

// TestFoldTrue: P15.2, RuleFold: a condition that always holds.
func TestFoldTrue(t *testing.T) {
	fold := api.RuleFold
	becomes(t, filter(xs(), yes), fold, xs())
	becomes(t, filter(unit(), yes), fold, unit())
	becomes(t, filter(filter(filter(xs(), yes), yes), yes), fold, xs())
	becomes(t, filter(slice(order(xs(), at("x")), 0, 1), yes), fold, slice(order(xs(), at("x")), 0, 1))
	becomes(t, join(filter(xs(), yes), distinct(filter(zs(), yes))), fold, join(xs(), distinct(zs())))
	becomes(t, filter(filter(xs(), isNull("x")), yes), fold, filter(xs(), isNull("x")))
	becomes(t, filter(extend(xs(), "v", fault), yes), fold, extend(xs(), "v", fault))
	stays(t, filter(xs(), yes), others(fold))
	for _, e := range []api.Expr{lit(num(1)), lit(text("true")), lit(none), op(api.EAnd, yes, yes), deep(3), op(api.EIsNull, lit(none))} {
		stays(t, filter(xs(), e), fold)
	}
	becomesIn(t, api.LangC, filter(match(unit(), "a", "r"), yes), fold, match(unit(), "a", "r"))
	becomesIn(t, api.LangS, filter(bgp("?x p ?y"), yes), fold, bgp("?x p ?y"))
	stays(t, extend(xs(), "v", exists(filter(unit(), yes))), fold) // not in EExists' plans
}

// TestFoldOverOrder: P15.2, RuleFold: an order that a slice would see stays hidden from it.
func TestFoldOverOrder(t *testing.T) {
	rows := values("x", row(num(1)), row(num(2)), row(num(3)))
	sorted := order(rows, at("x"))
	stays(t, slice(filter(sorted, yes), 0, 1), api.RuleFold)
	stays(t, filter(sorted, yes), api.RuleFold)
	becomes(t, slice(filter(filter(sorted, yes), yes), 0, 1), api.RuleFold, slice(filter(sorted, yes), 0, 1))
	becomes(t, slice(order(filter(rows, yes), at("x")), 0, 1), api.RuleFold, slice(sorted, 0, 1))
	becomes(t, slice(filter(slice(sorted, 0, 2), yes), 0, 1), api.RuleFold, slice(slice(sorted, 0, 2), 0, 1))
	becomes(t, order(filter(slice(sorted, 0, 2), yes), no), api.RuleFold, order(slice(sorted, 0, 2), no))
}

// TestFoldFalse: P15.2, RuleFold: a condition that never holds.
func TestFoldFalse(t *testing.T) {
	fold := api.RuleFold
	becomes(t, filter(xs(), no), fold, empty("x y"))
	becomes(t, filter(unit(), no), fold, empty(""))
	becomes(t, filter(empty("x"), no), fold, empty("x"))
	becomes(t, filter(both(zs(), minus(xs(), unit())), no), fold, empty("y z x"))
	becomes(t, distinct(filter(slice(project(groupBy(xs(), "y x"), "v y"), 0, 1), no)), fold, distinct(empty("v y")))
	becomes(t, filter(filter(xs(), no), yes), fold, empty("x y"))
	becomes(t, filter(filter(xs(), yes), no), fold, empty("x y"))
	becomes(t, filter(filter(xs(), no), no), fold, empty("x y"))
	becomes(t, filter(filter(xs(), no), isNull("x")), fold, filter(empty("x y"), isNull("x")))
	becomes(t, filter(left(xs(), zs(), no), yes), fold, left(xs(), zs(), no))
	becomesIn(t, api.LangC, filter(match(match(xs(), "a", "r"), "b", ""), no), fold, empty("x y a r b"))
	becomesIn(t, api.LangS, filter(join(xs(), bgp("?a p ?b. ?b ?q ?a")), no), fold, empty("x y a b q"))
	stays(t, filter(xs(), no), others(fold))
	stays(t, filter(filter(xs(), deep(2)), lit(none)), fold)
	stays(t, extend(xs(), "v", exists(filter(unit(), no))), fold)
}

// TestFoldFalseOverExpressions: P15.2, RuleFold: in C what lies below may err.
func TestFoldFalseOverExpressions(t *testing.T) {
	optional := match(xs(), "a", "")
	optional.Flag, optional.E = true, []api.Expr{op(api.EEq, fault, fault)}
	for _, p := range []api.Plan{
		extend(xs(), "v", fault), extend(xs(), "v", at("x")), unwind(xs(), "v", at("x")), filter(xs(), op(api.EEq, fault, yes)), order(xs(), fault), left(xs(), zs(), op(api.EEq, fault, yes)), left(xs(), zs(), no),
		groupBy(xs(), "", agg("sum", fault)), groupBy(xs(), "", agg("count")), distinct(join(xs(), project(extend(zs(), "v", fault), "v"))), slice(order(unit(), fault), 0, 0), filter(unit(), exists(extend(unit(), "w", fault))),
	} {
		becomesIn(t, api.LangC, filter(p, no), api.RuleFold, filter(p, no))
		becomesIn(t, api.LangS, filter(p, no), api.RuleFold, empty(strings.Join(algebra.Vars(p), " ")))
	}
	becomesIn(t, api.LangC, filter(optional, no), api.RuleFold, filter(optional, no))
	becomesIn(t, api.LangC, filter(filter(xs(), yes), no), api.RuleFold, empty("x y")) // what has no expressions any more
}

// TestLeft: P15.2, RuleLeft.
func TestLeft(t *testing.T) {
	rule := api.RuleLeft
	becomes(t, left(xs(), unit(), yes), rule, xs())
	becomes(t, left(xs(), empty(""), yes), rule, xs())
	becomes(t, left(left(xs(), unit(), yes), empty(""), yes), rule, xs())
	becomes(t, left(xs(), left(unit(), unit(), yes), yes), rule, xs())
	becomes(t, slice(left(slice(order(xs(), at("y")), 0, 2), unit(), yes), 0, 1), rule, slice(slice(order(xs(), at("y")), 0, 2), 0, 1))
	becomes(t, left(extend(unit(), "v", fault), unit(), yes), rule, extend(unit(), "v", fault))
	becomes(t, filter(left(unit(), unit(), yes), isNullOf(no)), rule, filter(unit(), isNullOf(no)))
	for _, p := range []api.Plan{
		left(order(xs(), at("x")), unit(), yes), slice(left(order(xs(), at("y")), unit(), yes), 0, 1), left(xs(), unit(), no), left(xs(), unit(), lit(num(1))), left(xs(), unit(), lit(none)), left(xs(), unit(), deep(3)), left(xs(), zs(), yes), left(xs(), empty("x"), yes), left(xs(), empty("v"), yes),
		left(xs(), values("", row()), yes), left(xs(), values("", row(), row()), yes), left(xs(), distinct(unit()), yes), join(xs(), unit()), minus(xs(), unit()), extend(xs(), "v", exists(left(unit(), unit(), yes))),
	} {
		stays(t, p, rule)
	}
	stays(t, left(xs(), unit(), yes), others(rule))
	becomes(t, left(xs(), filter(unit(), no), yes), rule|api.RuleFold, xs())
	becomes(t, left(xs(), filter(unit(), yes), yes), rule|api.RuleFold, xs())
	becomes(t, left(xs(), filter(unit(), no), yes), rule, left(xs(), filter(unit(), no), yes))
}

func isNullOf(e api.Expr) api.Expr { return op(api.EIsNull, e) }

// TestPrune: P15.2, RulePrune.
func TestPrune(t *testing.T) {
	rule := api.RulePrune
	safe := []api.Expr{yes, at("x"), isNull("x"), op(api.EEq, at("x"), at("y")), op(api.ENe, at("x"), lit(num(1)))}
	for _, e := range safe {
		becomesIn(t, api.LangC, project(extend(xs(), "v", e), "y"), rule, project(xs(), "y"))
	}
	may := []api.Expr{fault, op(api.EAdd, at("x"), at("y")), op(api.EAnd, at("x"), at("y")), call("text", at("x")), exists(unit()), op(api.EAnd, op(api.ELt, at("x"), at("y")), yes)}
	for _, e := range append(may, safe...) {
		becomesIn(t, api.LangS, project(extend(xs(), "v", e), "y"), rule, project(xs(), "y"))
	}
	for _, e := range may[:5] {
		becomesIn(t, api.LangC, project(extend(xs(), "v", e), "y"), rule, project(extend(xs(), "v", e), "y"))
	}
	becomesIn(t, api.LangC, project(extend(xs(), "v", may[5]), "y"), rule, project(xs(), "y"))
	becomes(t, project(extend(extend(extend(xs(), "u", yes), "v", yes), "w", at("u")), "x u"), rule, project(extend(xs(), "u", yes), "x u"))
	becomes(t, project(extend(extend(xs(), "u", yes), "v", at("u")), ""), rule, project(xs(), ""))
	becomes(t, project(extend(order(xs(), at("x")), "v", yes), "w"), rule, project(order(xs(), at("x")), "w"))
	becomes(t, distinct(project(extend(xs(), "v", yes), "y x")), rule, distinct(project(xs(), "y x")))
	for _, p := range []api.Plan{
		project(extend(xs(), "v", yes), "v"), project(extend(xs(), "v", yes), "y v x"), project(distinct(extend(xs(), "v", yes)), "x"), project(unwind(xs(), "v", lit(list(num(1), num(2)))), "x"), project(extend(xs(), "v", yes), "v w"), extend(xs(), "v", yes), distinct(extend(xs(), "v", yes)),
		filter(unit(), exists(project(extend(unit(), "v", yes), ""))),
	} {
		stays(t, p, rule)
	}
	becomes(t, project(extend(extend(xs(), "u", yes), "v", yes), "v"), rule, project(extend(extend(xs(), "u", yes), "v", yes), "v"))
	stays(t, project(extend(xs(), "v", yes), "y"), others(rule))
}

// TestMergeProjects: P15.2, RuleMerge.
func TestMergeProjects(t *testing.T) {
	rule := api.RuleMerge
	becomes(t, project(project(xs(), "x y"), "y"), rule, project(xs(), "y"))
	becomes(t, project(project(xs(), "x y"), "y x"), rule, project(xs(), "y x"))
	becomes(t, project(project(xs(), "v x"), "v"), rule, project(xs(), "v"))
	becomes(t, project(project(project(xs(), "x y v"), "v x"), ""), rule, project(xs(), ""))
	becomes(t, project(project(order(xs(), at("x")), "x"), "x"), rule, project(order(xs(), at("x")), "x"))
	becomes(t, project(project(project(xs(), "x"), "y"), "y"), rule, project(project(xs(), "x"), "y"))
	for _, p := range []api.Plan{
		project(project(xs(), "x"), "y"), project(project(xs(), "x"), "x y"), project(project(xs(), ""), "v"), project(distinct(project(xs(), "x")), "x"), project(xs(), "x y"), filter(unit(), exists(project(project(unit(), ""), ""))), slice(slice(xs(), 1, 2), 0, 1), order(order(xs(), at("x")), at("y")),
		both(both(xs(), zs()), xs()), join(join(xs(), zs()), xs()), extend(extend(xs(), "v", yes), "w", yes), unwind(unwind(xs(), "v", lit(list(num(1)))), "w", lit(list(num(1)))), groupBy(groupBy(xs(), "x y"), "x"), left(left(xs(), zs(), yes), zs(), yes), minus(minus(xs(), zs()), zs()),
	} {
		stays(t, p, rule)
	}
	stays(t, project(project(xs(), "x y"), "y"), others(rule))
	becomesIn(t, api.LangC, match(match(unit(), "a", "r"), "b", "s"), rule, match(match(unit(), "a", "r"), "b", "s"))
}

// TestMergeDistincts: P15.2, RuleMerge.
func TestMergeDistincts(t *testing.T) {
	rows := both(xs(), xs())
	becomes(t, distinct(distinct(rows)), api.RuleMerge, distinct(rows))
	becomes(t, chain(9, rows, distinct), api.RuleMerge, distinct(rows))
	becomes(t, join(distinct(distinct(rows)), distinct(distinct(order(rows, at("x"))))), api.RuleMerge, join(distinct(rows), distinct(order(rows, at("x")))))
	stays(t, distinct(project(distinct(rows), "x")), api.RuleMerge)
	stays(t, distinct(distinct(rows)), others(api.RuleMerge))
	stays(t, filter(rows, exists(distinct(distinct(unit())))), api.RuleMerge)
}

// TestMergeFilters: P15.2, RuleMerge: in S filters over one another are one.
func TestMergeFilters(t *testing.T) {
	rule := api.RuleMerge
	a, b, c := isNull("x"), op(api.ELt, at("y"), lit(num(2))), op(api.EEq, fault, at("y"))
	and := func(a, b api.Expr) api.Expr { return op(api.EAnd, a, b) }
	for _, e := range []api.Expr{a, b, c, yes, no, lit(text("")), lit(num(0)), at("v"), exists(unit()), exists(filter(unit(), isNull("x")))} {
		for _, f := range []api.Expr{a, b, c, yes, no, at("x"), exists(filter(unit(), isNull("y")))} {
			becomesIn(t, api.LangS, filter(filter(xs(), e), f), rule, filter(xs(), and(e, f)))
			p := in(api.LangC, filter(filter(xs(), op(api.EAnd, isNull("x"), no)), isNull("y")))
			becomesIn(t, api.LangC, p, rule, p)
		}
	}
	becomesIn(t, api.LangS, filter(filter(filter(xs(), a), b), c), rule, filter(xs(), and(and(a, b), c)))
	becomesIn(t, api.LangS, filter(distinct(filter(xs(), a)), b), rule, filter(distinct(filter(xs(), a)), b))
	becomesIn(t, api.LangC, filter(filter(xs(), isNull("x")), op(api.EEq, fault, yes)), rule, filter(filter(xs(), isNull("x")), op(api.EEq, fault, yes)))
	becomesIn(t, api.LangC, filter(filter(xs(), no), op(api.EEq, fault, yes)), rule, filter(filter(xs(), no), op(api.EEq, fault, yes)))
	stays(t, filter(filter(xs(), a), b), others(rule|api.RulePush))
	becomesIn(t, api.LangS, filter(unit(), exists(filter(filter(unit(), a), b))), rule, filter(unit(), exists(filter(filter(unit(), a), b))))
}

// TestMergeTooDeep: P15.2, RuleMerge: an EAnd that may not be is not made.
func TestMergeTooDeep(t *testing.T) {
	for _, c := range []struct {
		below, above int
		merged       bool
	}{{59, 59, true}, {1, 59, true}, {59, 1, true}, {60, 1, false}, {1, 60, false}, {60, 60, false}} {
		p := in(api.LangS, filter(filter(xs(), deep(c.below)), deep(c.above)))
		want := p
		if c.merged {
			want = in(api.LangS, filter(xs(), op(api.EAnd, deep(c.below), deep(c.above))))
		}
		becomesIn(t, api.LangS, p, api.RuleMerge, want)
	}
	many := in(api.LangS, chain(500, xs(), func(p api.Plan) api.Plan { return filter(p, isNull("x")) }))
	got := applied(t, many, api.RuleMerge)
	if !nothingLeft(got, api.RuleMerge) || Cost(got) > Cost(many) || Cost(got) == 0 {
		t.Errorf("what is left: %s", short(got))
	}
	meansTheSame(t, many, got, data())
}

// TestPush: P15.2, RulePush.
func TestPush(t *testing.T) {
	rule := api.RulePush
	for _, e := range []api.Expr{isNull("x"), op(api.EEq, at("x"), at("y")), yes, no, op(api.EEq, fault, yes), at("q"), call("coalesce", at("z"), yes), op(api.ENot, isNull("z"))} {
		becomesIn(t, api.LangS, filter(both(xs(), zs()), e), rule, both(filter(xs(), e), filter(zs(), e)))
		if e.Op != api.EVar && !slices.Contains([]string{"z", "q"}, firstVar(e)) {
			becomesIn(t, api.LangC, filter(both(xs(), xs()), e), rule, filter(both(xs(), xs()), e))
		}
	}
	e, f := isNull("y"), op(api.EEq, at("x"), at("z"))
	becomesIn(t, api.LangS, filter(filter(both(xs(), zs()), e), f), rule, both(filter(filter(xs(), e), f), filter(filter(zs(), e), f)))
	becomesIn(t, api.LangS, filter(both(xs(), both(zs(), both(unit(), xs()))), e), rule, both(filter(xs(), e), both(filter(zs(), e), both(filter(unit(), e), filter(xs(), e)))))
	becomesIn(t, api.LangS, join(filter(both(xs(), order(zs(), at("z"))), e), unit()), rule, join(both(filter(xs(), e), filter(order(zs(), at("z")), e)), unit()))
	becomesIn(t, api.LangS, slice(filter(both(xs(), zs()), e), 1, 1), rule, slice(both(filter(xs(), e), filter(zs(), e)), 1, 1))
	for _, p := range []api.Plan{
		filter(both(xs(), zs()), exists(unit())), filter(both(xs(), zs()), op(api.EAnd, yes, op(api.ENot, exists(filter(unit(), isNull("z")))))), filter(both(xs(), zs()), api.Expr{Op: api.EExists, Flag: true, Plan: []api.Plan{values("z", row(num(3)))}}),
		filter(join(xs(), zs()), e), filter(distinct(both(xs(), zs())), e), extend(xs(), "v", exists(filter(both(unit(), xs()), yes))), filter(minus(xs(), zs()), e), filter(left(xs(), zs(), yes), e),
	} {
		stays(t, p, rule)
	}
	becomesIn(t, api.LangS, filter(both(xs(), zs()), e), others(rule), filter(both(xs(), zs()), e))
	within := exists(filter(unit(), isNull("z")))
	becomesIn(t, api.LangS, filter(filter(both(xs(), zs()), e), within), rule, filter(both(filter(xs(), e), filter(zs(), e)), within))
	becomesIn(t, api.LangS, filter(filter(both(xs(), zs()), within), e), rule, filter(filter(both(xs(), zs()), within), e))
	becomesIn(t, api.LangS, filter(filter(both(xs(), filter(zs(), f)), e), f), rule|api.RuleMerge, both(filter(xs(), op(api.EAnd, e, f)), filter(zs(), op(api.EAnd, op(api.EAnd, f, e), f))))
}

func firstVar(e api.Expr) string {
	for len(e.Args) > 0 {
		e = e.Args[0]
	}
	return e.Text
}

// TestPushAsFarAsThereIsRoom: P15.2, RulePush: a plan may have MaxParts parts.
func TestPushAsFarAsThereIsRoom(t *testing.T) {
	e := isNull("x")
	for _, room := range []int{0, 1, 2, 3, 4, 5, 6, 7} {
		p := filter(both(both(xs(), zs()), unit()), e)
		p = in(api.LangS, chain(api.MaxParts-room-Cost(p), p, distinct))
		got := applied(t, p, api.RulePush)
		if want := Cost(p) + 3*min(room/3, 2); Cost(got) != want {
			t.Errorf("room %d: cost %d; want %d", room, Cost(got), want)
		}
		if !nothingLeft(got, api.RulePush) {
			t.Errorf("room %d:%s", room, short(got))
		}
		if room == 5 {
			meansTheSame(t, p, got, data())
		}
	}
}

// TestPushWhereRoomIsMade: P15.2: what the rules take away above makes room below.
func TestPushWhereRoomIsMade(t *testing.T) {
	p := chain(api.MaxParts-7, filter(both(xs(), zs()), isNull("x")), distinct)
	becomesIn(t, api.LangS, p, api.RulePush, p)
	becomesIn(t, api.LangS, p, api.RulePush|api.RuleMerge, distinct(both(filter(xs(), isNull("x")), filter(zs(), isNull("x")))))
	aside := filter(chain(api.MaxParts-11, xs(), distinct), no)
	q := join(filter(both(xs(), zs()), isNull("y")), aside)
	if Cost(p) != api.MaxParts-1 || Cost(q) != api.MaxParts-1 {
		t.Fatal(Cost(p), Cost(q))
	}
	becomesIn(t, api.LangS, q, api.RulePush, q)
	becomesIn(t, api.LangS, q, api.RulePush|api.RuleFold, join(both(filter(xs(), isNull("y")), filter(zs(), isNull("y"))), empty("x y")))
}

// TestAllRules: P15.2: rules that make way for one another.
func TestAllRules(t *testing.T) {
	for i, c := range []struct{ p, inC, inS api.Plan }{
		{filter(both(xs(), zs()), no), empty("x y z"), empty("x y z")},
		{filter(both(xs(), zs()), yes), both(xs(), zs()), both(xs(), zs())},
		{filter(left(both(xs(), zs()), unit(), yes), isNull("y")), filter(both(xs(), zs()), isNull("y")), both(filter(xs(), isNull("y")), filter(zs(), isNull("y")))},
		{distinct(filter(distinct(xs()), yes)), distinct(xs()), distinct(xs())},
		{distinct(left(distinct(xs()), filter(unit(), no), yes)), distinct(xs()), distinct(xs())},
		{project(filter(extend(xs(), "v", fault), yes), "x"), project(extend(xs(), "v", fault), "x"), project(xs(), "x")},
		{project(extend(project(xs(), "x y"), "v", yes), "x"), project(xs(), "x"), project(xs(), "x")},
		{project(project(extend(xs(), "v", yes), "x v"), "x"), project(xs(), "x"), project(xs(), "x")},
		{filter(project(project(filter(xs(), yes), "x"), "x"), no), empty("x"), empty("x")},
		{filter(filter(filter(xs(), isNull("x")), yes), isNull("y")), filter(filter(xs(), isNull("x")), isNull("y")), filter(xs(), op(api.EAnd, isNull("x"), isNull("y")))},
		{filter(filter(both(xs(), zs()), yes), exists(unit())), filter(both(xs(), zs()), exists(unit())), filter(both(xs(), zs()), exists(unit()))},
		{slice(filter(left(order(xs(), at("y")), unit(), yes), yes), 0, 1), slice(left(order(xs(), at("y")), unit(), yes), 0, 1), slice(left(order(xs(), at("y")), unit(), yes), 0, 1)},
		{order(filter(distinct(distinct(xs())), yes), filterIn(no)), order(distinct(xs()), filterIn(no)), order(distinct(xs()), filterIn(no))},
		{groupBy(filter(xs(), yes), "x", agg("max", filterIn(yes))), groupBy(xs(), "x", agg("max", filterIn(yes))), groupBy(xs(), "x", agg("max", filterIn(yes)))},
		{minus(filter(xs(), yes), filter(zs(), yes)), minus(xs(), zs()), minus(xs(), zs())},
		{left(filter(xs(), yes), filter(zs(), yes), yes), left(xs(), zs(), yes), left(xs(), zs(), yes)},
		{unwind(filter(xs(), yes), "v", lit(list(num(1)))), unwind(xs(), "v", lit(list(num(1)))), unwind(xs(), "v", lit(list(num(1))))},
	} {
		for lang, want := range []api.Plan{c.inC, c.inS} {
			if got := applied(t, in(lang, c.p), api.RuleAll); !alike(got, in(lang, want)) {
				t.Errorf("%d, language %d:%s%s", i, lang, short(got), short(in(lang, want)))
			}
			meansTheSame(t, in(lang, c.p), in(lang, want), data())
		}
	}
	optional := match(filter(xs(), yes), "a", "")
	optional.Flag, optional.E = true, []api.Expr{filterIn(yes)}
	want := optional
	want.In = []api.Plan{xs()}
	becomesIn(t, api.LangC, optional, api.RuleAll, want)
}

// filterIn asks a plan with a filter of that condition.
func filterIn(e api.Expr) api.Expr { return exists(filter(unit(), e)) }
