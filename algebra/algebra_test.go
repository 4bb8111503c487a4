package algebra

import (
	"fmt"
	"math"
	"reflect"
	"slices"
	"strings"
	"sync"
	"testing"
	"unsafe"

	"diptych/api"
)

func num(n int64) api.Value         { return api.Value{Kind: api.KInt, Int: n} }
func text(s string) api.Value       { return api.Value{Kind: api.KText, Text: s} }
func vertex(id int64) api.Value     { return api.Value{Kind: api.KNode, Int: id} }
func iri(s string) api.Value        { return api.Value{Kind: api.KIri, Text: s} }
func blank(s string) api.Value      { return api.Value{Kind: api.KBlank, Text: s} }
func list(l ...api.Value) api.Value { return api.Value{Kind: api.KList, List: l} }

// unbound is a variable of a pattern.
func unbound(name string) api.Value { return api.Value{Kind: api.KNull, Text: name} }

func lit(v api.Value) api.Expr             { return api.Expr{Op: api.ELit, V: v} }
func variable(name string) api.Expr        { return api.Expr{Op: api.EVar, Text: name} }
func op(op int, args ...api.Expr) api.Expr { return api.Expr{Op: op, Args: args} }
func exists(p api.Plan) api.Expr           { return api.Expr{Op: api.EExists, Plan: []api.Plan{p}} }
func agg(name string, args ...api.Expr) api.Expr {
	return api.Expr{Op: api.EAgg, Text: name, Args: args}
}
func same(a, b string) api.Expr { return op(api.EEq, variable(a), variable(b)) }

var (
	yes      = api.Value{Kind: api.KBool, Bool: true}
	truth    = lit(yes)
	langs    = []int{api.LangC, api.LangS}
	longName = strings.Repeat("n", 64)
	longest  = strings.Repeat("x", api.MaxText)
)

// names tells words of a text.
func names(s string) []string { return strings.Fields(s) }

// v tells n names, the first of them by the number from.
func v(from, n int) []string {
	var l []string
	for i := range n {
		l = append(l, fmt.Sprint("v", from+i))
	}
	return l
}

// The plans below are of C, as their zero Lang says; in tells them in another language.

func unit() api.Plan                          { return api.Plan{Op: api.PUnit} }
func values(vars string) api.Plan             { return api.Plan{Op: api.PValues, Vars: names(vars)} }
func wide(from, n int) api.Plan               { return api.Plan{Op: api.PValues, Vars: v(from, n)} }
func bgp(l ...api.Pattern) api.Plan           { return api.Plan{Op: api.PBgp, Bgp: l} }
func two(op int, a, b api.Plan) api.Plan      { return api.Plan{Op: op, In: []api.Plan{a, b}} }
func join(a, b api.Plan) api.Plan             { return two(api.PJoin, a, b) }
func one(op int, a api.Plan) api.Plan         { return api.Plan{Op: op, In: []api.Plan{a}} }
func filter(a api.Plan, e api.Expr) api.Plan  { return with(one(api.PFilter, a), e) }
func with(p api.Plan, l ...api.Expr) api.Plan { p.E = l; return p }
func project(a api.Plan, vars string) api.Plan {
	p := one(api.PProject, a)
	p.Vars = names(vars)
	return p
}
func slice(a api.Plan, skip, limit int64) api.Plan {
	p := one(api.PSlice, a)
	p.Skip, p.Limit = skip, limit
	return p
}
func left(a, b api.Plan, e api.Expr) api.Plan { return with(two(api.PLeft, a, b), e) }
func extend(a api.Plan, name string, e api.Expr) api.Plan {
	p := with(one(api.PExtend, a), e)
	p.Var = name
	return p
}
func unwind(a api.Plan, name string, e api.Expr) api.Plan {
	p := extend(a, name, e)
	p.Op = api.PUnwind
	return p
}
func group(a api.Plan, keys string, l ...api.Agg) api.Plan {
	p := one(api.PGroup, a)
	p.Vars, p.Aggs = names(keys), l
	return p
}
func order(a api.Plan, l ...api.Expr) api.Plan {
	p := one(api.POrder, a)
	for i, e := range l {
		p.Sorts = append(p.Sorts, api.Sort{E: e, Down: i%2 == 1})
	}
	return p
}

// match tells a PMatch whose hops are written as "from edge to".
func match(a api.Plan, spots string, hops ...string) api.Plan {
	p := one(api.PMatch, a)
	for _, name := range names(spots) {
		p.Spots = append(p.Spots, api.Spot{Var: name})
	}
	for i, hop := range hops {
		l := names(hop)
		p.Hops = append(p.Hops, api.Hop{From: l[0], Edge: l[1], To: l[2], Dir: i%3 - 1})
	}
	return p
}

// in tells p in the language, with all that is within.
func in(lang int, p api.Plan) api.Plan {
	p.Lang = lang
	p.In = mapped(p.In, func(q api.Plan) api.Plan { return in(lang, q) })
	p.E = mapped(p.E, func(e api.Expr) api.Expr { return exprIn(lang, e) })
	p.Aggs = mapped(p.Aggs, func(a api.Agg) api.Agg { a.E = exprIn(lang, a.E); return a })
	p.Sorts = mapped(p.Sorts, func(s api.Sort) api.Sort { s.E = exprIn(lang, s.E); return s })
	return p
}

func exprIn(lang int, e api.Expr) api.Expr {
	e.Args = mapped(e.Args, func(arg api.Expr) api.Expr { return exprIn(lang, arg) })
	e.Plan = mapped(e.Plan, func(p api.Plan) api.Plan { return in(lang, p) })
	return e
}

func short(x any) string {
	s := fmt.Sprintf("%+.60v", x)
	return s[:min(len(s), 900)]
}

// isNothing holds what is told of a plan that may not be.
func isNothing(t *testing.T, p api.Plan) {
	t.Helper()
	if size, lines := Size(p), Lines(p); size != 0 || lines != "" {
		t.Errorf("of what may not be Size %d, Lines %q: %s", size, lines, short(p))
	}
}

func checks(t *testing.T, p api.Plan, want bool) {
	t.Helper()
	if got := Check(p); got != want {
		t.Errorf("Check: %v: %s", got, short(p))
	}
	Vars(p)
	if !want {
		isNothing(t, p)
	} else if Size(p) == 0 || Lines(p) == "" {
		t.Errorf("no Size or Lines of what may be: %s", short(p))
	}
}

// checksIn holds Check of p in both languages.
func checksIn(t *testing.T, p api.Plan, inC, inS bool) {
	t.Helper()
	checks(t, in(api.LangC, p), inC)
	checks(t, in(api.LangS, p), inS)
}

func has(t *testing.T, p api.Plan, vars string) {
	t.Helper()
	checks(t, p, true)
	if got := Vars(p); !slices.Equal(got, names(vars)) {
		t.Errorf("Vars: %q; want %q: %s", got, vars, short(p))
	}
}

func hasIn(t *testing.T, p api.Plan, vars string) {
	t.Helper()
	for _, lang := range langs {
		has(t, in(lang, p), vars)
	}
}

var ab = values("a b")

// plain tells a plan of each Op that may be in the language, over plans with the variables a and b.
func plain(lang, o int) api.Plan {
	p := map[int]api.Plan{
		api.PUnit: unit(), api.PValues: values("a b"), api.PBgp: bgp(api.Pattern{S: unbound("a"), P: iri("p"), O: unbound("b")}),
		api.PMatch: match(ab, "x y", "x r y"), api.PJoin: join(ab, ab), api.PLeft: left(ab, ab, truth), api.PUnion: two(api.PUnion, ab, ab), api.PMinus: two(api.PMinus, ab, ab),
		api.PFilter: filter(ab, truth), api.PExtend: extend(ab, "x", truth), api.PUnwind: unwind(ab, "x", truth), api.PGroup: group(ab, "a", api.Agg{Var: "x", E: agg("count")}),
		api.PDistinct: one(api.PDistinct, ab), api.POrder: order(ab, truth), api.PSlice: slice(ab, 1, 2), api.PProject: project(ab, "b"),
	}[o]
	p.Op = o
	return in(lang, p)
}

// stands tells whether the Op stands in the language.
func stands(lang, o int) bool {
	switch o {
	case api.PBgp:
		return lang == api.LangS
	case api.PMatch:
		return lang == api.LangC
	}
	return o >= api.PUnit && o <= api.PProject
}

// TestVars: P10.1: each Op's variables, in their order.
func TestVars(t *testing.T) {
	hasIn(t, unit(), "")
	hasIn(t, values(""), "")
	hasIn(t, values("b a c"), "b a c")
	hasIn(t, project(ab, ""), "")
	hasIn(t, project(ab, "b z a"), "b z a")
	for _, o := range []int{api.PJoin, api.PUnion} {
		hasIn(t, two(o, values("b a c"), values("d c e a")), "b a c d e")
		hasIn(t, two(o, unit(), values("d c")), "d c")
		hasIn(t, two(o, values("d c"), unit()), "d c")
	}
	hasIn(t, left(values("b a c"), values("d c e a"), truth), "b a c d e")
	hasIn(t, two(api.PMinus, values("b a c"), values("d c e a")), "b a c")
	hasIn(t, two(api.PMinus, unit(), values("d")), "")
	hasIn(t, filter(ab, truth), "a b")
	hasIn(t, one(api.PDistinct, ab), "a b")
	hasIn(t, order(ab, variable("b")), "a b")
	hasIn(t, slice(ab, 0, -1), "a b")
	hasIn(t, extend(ab, "A", truth), "a b A")
	hasIn(t, unwind(ab, "_", truth), "a b _")
	hasIn(t, extend(unit(), "x", truth), "x")
	hasIn(t, group(values("a b c"), "c a", api.Agg{Var: "z", E: agg("count")}, api.Agg{Var: "b", E: agg("min", variable("b"))}), "c a z b")
	hasIn(t, group(ab, ""), "")
	hasIn(t, filter(extend(project(join(values("x y"), values("z")), "z x"), "y", truth), truth), "z x y")
}

// TestVarsOfPatterns: P10.1: of a PBgp, and of a PMatch, as they come first.
func TestVarsOfPatterns(t *testing.T) {
	s := func(p api.Plan) api.Plan { return in(api.LangS, p) }
	has(t, s(bgp()), "")
	has(t, s(bgp(api.Pattern{S: iri("a"), P: iri("b"), O: iri("c")})), "")
	has(t, s(bgp(api.Pattern{S: unbound("o"), P: unbound("p"), O: unbound("s")})), "o p s")
	has(t, s(bgp(api.Pattern{S: unbound("x"), P: unbound("x"), O: unbound("x")})), "x")
	has(t, s(bgp(api.Pattern{S: unbound("x"), P: iri("p"), O: unbound("y")}, api.Pattern{S: unbound("y"), P: unbound("q"), O: unbound("x")}, api.Pattern{S: blank("b"), P: iri("p"), O: unbound("a")})), "x y q a")
	has(t, match(unit(), "b a"), "b a")
	has(t, match(ab, "c b d a"), "a b c d")
	has(t, match(values("q b"), "c b a", "a r b", "b s a"), "q b c a r s")
	has(t, match(unit(), "y x", "x z x", "x w y"), "y x z w")
}

// TestCheckCounts: P10.2: every Op, and numbers that are none, with 0 to 4 plans and 0 to 3 expressions.
func TestCheckCounts(t *testing.T) {
	for _, lang := range langs {
		for o := -2; o <= api.PProject+3; o++ {
			for ins := range 5 {
				for es := range 4 {
					p := plain(lang, o)
					wantE := len(p.E)
					p.In = slices.Repeat([]api.Plan{in(lang, ab)}, ins)
					p.E = slices.Repeat([]api.Expr{truth}, es)
					checks(t, p, stands(lang, o) && ins == insOf(o) && es == wantE)
				}
			}
		}
		checks(t, in(lang, api.Plan{}), false)
		checks(t, api.Plan{Op: math.MaxInt, Lang: lang}, false)
		checks(t, api.Plan{Op: math.MinInt, Lang: lang}, false)
	}
}

// TestCheckFields: P10.2: what an Op does not name is zero; an empty list is none.
func TestCheckFields(t *testing.T) {
	fields := map[string]func(p *api.Plan){
		"Var": func(p *api.Plan) { p.Var = "new" }, "Vars": func(p *api.Plan) { p.Vars = []string{"a"} }, "Rows": func(p *api.Plan) { p.Rows = [][]api.Value{{num(1), num(2)}} },
		"Bgp": func(p *api.Plan) { p.Bgp = []api.Pattern{{S: iri("a"), P: iri("b"), O: iri("c")}} }, "Spots": func(p *api.Plan) { p.Spots = []api.Spot{{Var: "x"}, {Var: "y"}} }, "Hops": func(p *api.Plan) { p.Hops = []api.Hop{{From: "x", To: "y", Edge: "f"}} },
		"Flag": func(p *api.Plan) { p.Flag = true }, "Aggs": func(p *api.Plan) { p.Aggs = []api.Agg{{Var: "n", E: agg("count")}} }, "Sorts": func(p *api.Plan) { p.Sorts = []api.Sort{{E: truth}} },
		"Skip": func(p *api.Plan) { p.Skip = 1 }, "Skip below 0": func(p *api.Plan) { p.Skip = -1 }, "Limit": func(p *api.Plan) { p.Limit = 1 }, "Limit below 0": func(p *api.Plan) { p.Limit = -1 },
		"one Spot": func(p *api.Plan) { p.Spots = []api.Spot{{Var: "x"}} }, "an Agg of no EAgg": func(p *api.Plan) { p.Aggs = []api.Agg{{Var: "n", E: truth}} },
		"Rows of nothing": func(p *api.Plan) { p.Rows = [][]api.Value{nil} },
	}
	named := map[int][]string{
		api.PValues: {"Vars", "Rows"}, api.PBgp: {"Bgp"}, api.PMatch: {"Spots", "Hops", "Flag"}, api.PExtend: {"Var"}, api.PUnwind: {"Var"}, api.PGroup: {"Vars", "Aggs"},
		api.POrder: {"Sorts"}, api.PSlice: {"Skip", "Skip below 0", "Limit", "Limit below 0"}, api.PProject: {"Vars"},
	}
	for _, lang := range langs {
		for o := api.PUnit; o <= api.PProject; o++ {
			if !stands(lang, o) {
				continue
			}
			for field, set := range fields {
				p := plain(lang, o)
				set(&p)
				if want := slices.Contains(named[o], field); Check(p) != want {
					t.Errorf("lang %d, Op %d with %s: %v", lang, o, field, !want)
				}
			}
			p := plain(lang, o)
			p.In, p.E, p.Vars, p.Bgp = append([]api.Plan{}, p.In...), append([]api.Expr{}, p.E...), append([]string{}, p.Vars...), append([]api.Pattern{}, p.Bgp...)
			p.Rows, p.Hops, p.Aggs = [][]api.Value{}, append([]api.Hop{}, p.Hops...), append([]api.Agg{}, p.Aggs...)
			p.Spots, p.Sorts = append([]api.Spot{}, p.Spots...), append([]api.Sort{}, p.Sorts...)
			checks(t, p, true)
		}
	}
}

// TestCheckLang: P10.2: a plan has a language, and all plans within the same one.
func TestCheckLang(t *testing.T) {
	for lang := -3; lang < 70; lang++ {
		checks(t, in(lang, unit()), lang == api.LangC || lang == api.LangS)
		checks(t, in(lang, filter(ab, truth)), lang == api.LangC || lang == api.LangS)
	}
	checks(t, in(math.MinInt, unit()), false)
	checks(t, in(math.MaxInt, unit()), false)
	for _, lang := range langs {
		mine, other := in(lang, unit()), in(1-lang, unit())
		for _, p := range []api.Plan{join(mine, other), join(other, mine), join(other, other), filter(filter(other, truth), truth), filter(mine, exists(other)), filter(mine, exists(in(7, unit()))), filter(mine, exists(filter(mine, exists(other)))), order(mine, exists(other)), group(mine, "", api.Agg{Var: "n", E: agg("count", exists(other))})} {
			p.Lang = lang
			for i := range p.E {
				p.E[i] = op(api.ENot, p.E[i])
			}
			checks(t, p, false)
			checks(t, in(lang, p), true)
		}
	}
}

// TestCheckNames: P10.2: variables are names, wherever they stand.
func TestCheckNames(t *testing.T) {
	for name, want := range map[string]bool{
		"": false, "x": true, "_": true, "_9": true, "aZ09_": true, "9": false, "a b": false, "a-b": false, "é": false, "x\x00": false, "?x": false, " ": false, longName: true, longName + "n": false,
	} {
		for _, lang := range langs {
			for _, p := range []api.Plan{
				{Op: api.PValues, Vars: []string{name}}, {Op: api.PValues, Vars: []string{"q", name}}, extend(ab, name, truth), unwind(ab, name, truth),
				group(ab, "a", api.Agg{Var: "q", E: agg("count")}, api.Agg{Var: name, E: agg("count")}), {Op: api.PProject, In: []api.Plan{ab}, Vars: []string{"q", name}},
			} {
				checks(t, in(lang, p), want)
			}
		}
		if name != "" {
			checks(t, in(api.LangC, filter(ab, variable(name))), false)
			checks(t, in(api.LangS, filter(ab, variable(name))), want)
		}
		for _, p := range []api.Pattern{{S: unbound(name), P: iri("p"), O: iri("o")}, {S: iri("s"), P: unbound(name), O: iri("o")}, {S: iri("s"), P: iri("p"), O: unbound(name)}} {
			checks(t, in(api.LangS, bgp(api.Pattern{S: unbound("q"), P: iri("p"), O: unbound("q")}, p)), want)
		}
		spot, edge, ends := match(ab, "x y"), match(ab, "x y", "x r y"), match(ab, "x y", "x r y")
		spot.Spots[1].Var, edge.Hops[0].Edge = name, name
		ends.Spots[0].Var, ends.Hops[0].From, ends.Hops[0].To = name, name, name
		if name == "x" {
			spot.Spots[0].Var, edge.Spots[0].Var, edge.Hops[0].From = "z", "z", "z"
		}
		for _, p := range []api.Plan{spot, edge, ends} {
			checks(t, p, want)
		}
	}
}

// TestCheckUnlike: P10.2: what must be unlike.
func TestCheckUnlike(t *testing.T) {
	n := func(name string) api.Agg { return api.Agg{Var: name, E: agg("count")} }
	for _, a := range []struct {
		p    api.Plan
		want bool
	}{
		{values("a b c"), true}, {values("a b a"), false}, {values("b a a"), false}, {values("a A"), true},
		{project(ab, "x y"), true}, {project(ab, "x x"), false}, {project(ab, "a b a"), false},
		{group(ab, "b a"), true}, {group(ab, "a a"), false}, {group(ab, "a", n("x"), n("y")), true}, {group(ab, "a", n("x"), n("x")), false}, {group(ab, "a", n("a")), false}, {group(ab, "a", n("b")), true}, {group(ab, "b a", n("x"), n("a")), false},
		{group(ab, "a c"), false}, {group(unit(), "a"), false}, {group(project(ab, "b"), "a"), false}, {group(project(ab, "b z"), "z"), true}, {group(two(api.PMinus, ab, values("c")), "c"), false},
		{extend(ab, "a", truth), false}, {extend(ab, "b", truth), false}, {extend(ab, "c", truth), true}, {unwind(ab, "a", truth), false}, {unwind(ab, "c", truth), true},
		{extend(project(ab, "b"), "a", truth), true}, {extend(extend(ab, "c", truth), "c", truth), false}, {unwind(extend(ab, "c", truth), "d", truth), true}, {extend(two(api.PMinus, ab, values("c")), "c", truth), true},
		{extend(left(ab, values("c"), truth), "c", truth), false}, {extend(two(api.PUnion, ab, values("c")), "c", truth), false},
	} {
		checksIn(t, a.p, a.want, a.want)
	}
}

// TestCheckRows: P10.2: PValues: a value that may be for each variable.
func TestCheckRows(t *testing.T) {
	table := func(vars string, rows ...[]api.Value) api.Plan {
		return api.Plan{Op: api.PValues, Vars: names(vars), Rows: rows}
	}
	row := func(l ...api.Value) []api.Value { return l }
	for _, a := range []struct {
		p    api.Plan
		want bool
	}{
		{table(""), true}, {table("", row()), true}, {table("", nil, row()), true}, {table("", row(num(1))), false},
		{table("a b", row(num(1), text("x")), row(api.Value{}, list(api.Value{}, list()))), true}, {table("a b", row(num(1))), false}, {table("a b", row(num(1), num(2), num(3))), false}, {table("a b", row(num(1), num(2)), row()), false},
		{table("a", row(vertex(0)), row(iri("i")), row(blank("b")), row(api.Value{Kind: api.KLit, Text: "l", Extra: "en"}), row(api.Value{Kind: api.KDec, Text: "1.5"}), row(api.Value{Kind: api.KEdge, Int: 4}), row(yes)), true},
		{table("a", row(text(longest))), true}, {table("a", row(text(longest+"x"))), false}, {table("a", row(vertex(-1))), false}, {table("a", row(iri(""))), false}, {table("a", row(api.Value{Kind: 11})), false}, {table("a", row(unbound("x"))), false}, {table("a b", row(num(1), list(iri(" ")))), false},
		{table("a", slices.Repeat([][]api.Value{row(num(3))}, 5000)...), true},
	} {
		checksIn(t, a.p, a.want, a.want)
	}
}

// TestCheckPatterns: P10.2: which parts a pattern may have; a value and a variable are told apart by what is beside the name.
func TestCheckPatterns(t *testing.T) {
	subject, predicate, object := 1, 2, 4
	for _, a := range []struct {
		v      api.Value
		places int
	}{
		{unbound("x"), subject | predicate | object}, {iri("x"), subject | predicate | object}, {blank("b"), subject | object},
		{api.Value{Kind: api.KLit, Text: "", Extra: "en"}, object}, {text(""), object}, {yes, object}, {num(-3), object}, {api.Value{Kind: api.KDec, Text: "0.5"}, object},
		{api.Value{}, 0}, {vertex(1), 0}, {api.Value{Kind: api.KEdge}, 0}, {list(), 0}, {api.Value{Kind: 99, Text: "x"}, 0}, {api.Value{Kind: -1, Text: "x"}, 0},
		{iri(""), 0}, {iri("a b"), 0}, {blank("9"), 0}, {text(longest + "x"), 0}, {api.Value{Kind: api.KLit, Text: "a"}, 0}, {api.Value{Kind: api.KDec, Text: "1"}, 0}, {api.Value{Kind: api.KIri, Text: "x", Extra: "y"}, 0},
		{api.Value{Text: "x", Bool: true}, 0}, {api.Value{Text: "x", Int: 1}, 0}, {api.Value{Text: "x", Extra: "x"}, 0}, {api.Value{Text: "x", List: []api.Value{{}}}, 0}, {api.Value{Text: "x", List: []api.Value{}}, subject | predicate | object},
	} {
		for place, p := range map[int]api.Pattern{subject: {S: a.v, P: iri("p"), O: iri("o")}, predicate: {S: iri("s"), P: a.v, O: iri("o")}, object: {S: iri("s"), P: iri("p"), O: a.v}} {
			good := api.Pattern{S: unbound("a"), P: unbound("b"), O: unbound("c")}
			for _, l := range [][]api.Pattern{{p}, {good, p}, {p, good}} {
				checksIn(t, bgp(l...), false, a.places&place != 0)
			}
		}
	}
	one := []api.Pattern{{S: unbound("a"), P: unbound("b"), O: unbound("c")}}
	checksIn(t, bgp(), false, true)
	checksIn(t, bgp(slices.Repeat(one, api.MaxVars)...), false, true)
	checksIn(t, bgp(slices.Repeat(one, api.MaxVars+1)...), false, false)
}

// TestCheckPaths: P10.2: what a PMatch has.
func TestCheckPaths(t *testing.T) {
	with := func(change func(p *api.Plan)) api.Plan {
		p := match(ab, "x y a", "x r y", "y s a")
		change(&p)
		return p
	}
	for i, a := range []struct {
		change func(p *api.Plan)
		want   bool
	}{
		{func(p *api.Plan) {}, true},
		{func(p *api.Plan) { p.Hops = nil }, true},
		{func(p *api.Plan) { p.Spots = nil }, false},
		{func(p *api.Plan) { p.Spots, p.Hops = nil, nil }, false},
		{func(p *api.Plan) { p.Spots[1].Var = "x" }, false},
		{func(p *api.Plan) { p.Spots[0].Labels = []string{"L", "M", "L"} }, true},
		{func(p *api.Plan) { p.Spots[0].Labels = []string{"no name: \x00", longest} }, true},
		{func(p *api.Plan) { p.Spots[2].Labels = []string{"L", ""} }, false},
		{func(p *api.Plan) { p.Spots[0].Labels = []string{longest + "x", "L"} }, false},
		{func(p *api.Plan) { p.Hops[1].Types = []string{"T", longest, "T", " "} }, true},
		{func(p *api.Plan) { p.Hops[0].Types = []string{""} }, false},
		{func(p *api.Plan) { p.Hops[1].Types = []string{"T", longest + "x"} }, false},
		{func(p *api.Plan) { p.Hops[1].From = "z" }, false},
		{func(p *api.Plan) { p.Hops[0].To = "" }, false},
		{func(p *api.Plan) { p.Hops[0].To = "b" }, false}, // In's, but no Spot's
		{func(p *api.Plan) { p.Hops[0].From = "s" }, false},
		{func(p *api.Plan) { p.Hops[0].From, p.Hops[0].To = "a", "a" }, true},
		{func(p *api.Plan) { p.Hops[1].Edge = "r" }, false},
		{func(p *api.Plan) { p.Hops[1].Edge = "x" }, false},
		{func(p *api.Plan) { p.Hops[1].Edge = "a" }, false}, // both In's and a Spot's
		{func(p *api.Plan) { p.Hops[1].Edge = "b" }, false}, // In's
		{func(p *api.Plan) { p.Hops[0].Dir = 1 }, true},
		{func(p *api.Plan) { p.Hops[0].Dir = 2 }, false},
		{func(p *api.Plan) { p.Hops[1].Dir = -2 }, false},
		{func(p *api.Plan) { p.Hops[1].Dir = math.MinInt }, false},
		{func(p *api.Plan) { p.Flag = true }, true},
		{func(p *api.Plan) { p.E = []api.Expr{truth} }, false},
		{func(p *api.Plan) { p.Flag, p.E = true, []api.Expr{truth} }, true},
		{func(p *api.Plan) { p.Flag, p.E = true, []api.Expr{truth, truth} }, false},
		{func(p *api.Plan) { p.Flag, p.E = true, []api.Expr{same("b", "s")} }, true}, // the plan's own variables
		{func(p *api.Plan) { p.Flag, p.E = true, []api.Expr{same("b", "q")} }, false},
		{func(p *api.Plan) { p.Flag, p.E = true, []api.Expr{agg("count")} }, false},
		{func(p *api.Plan) { p.Flag, p.E = true, []api.Expr{op(api.ENot)} }, false},
	} {
		p := with(a.change)
		if got := Check(p); got != a.want {
			t.Errorf("%d: Check: %v: %s", i, got, short(p))
		}
		checks(t, in(api.LangS, p), false)
	}
}

// TestCheckSorts: P10.2: how many Sorts, and Skip and Limit.
func TestCheckSorts(t *testing.T) {
	for n, want := range map[int]bool{0: false, 1: true, 2: true, api.MaxVars: true, api.MaxVars + 1: false} {
		p := order(ab, slices.Repeat([]api.Expr{variable("a")}, n)...)
		checksIn(t, p, want, want)
	}
	for n, want := range map[int64]bool{-1: true, 0: true, 1: true, math.MaxInt64: true, -2: false, math.MinInt64: false} {
		checksIn(t, slice(ab, n, 0), want, want)
		checksIn(t, slice(ab, 0, n), want, want)
	}
	checksIn(t, slice(ab, -1, -1), true, true)
}

// holders tells plans that have e, over a and b; c is what PLeft's and PMatch's have beside.
func holders(e api.Expr) []api.Plan {
	optional := with(match(ab, "c"), e)
	optional.Flag = true
	return []api.Plan{
		left(ab, values("c"), e), filter(ab, e), extend(ab, "x", e), unwind(ab, "x", e), order(ab, e), order(ab, truth, e), optional,
		group(ab, "a", api.Agg{Var: "x", E: agg("count", e)}), group(ab, "", api.Agg{Var: "w", E: agg("count")}, api.Agg{Var: "x", E: agg("max", e)}),
	}
}

// TestCheckExpressions: P10.2: expressions may be, have an EAgg in a PGroup alone, and in C only variables that are there.
func TestCheckExpressions(t *testing.T) {
	deep := func(n int) api.Expr {
		e := truth
		for range n - 1 {
			e = op(api.ENot, e)
		}
		return e
	}
	for _, a := range []struct {
		e        api.Expr
		inC, inS bool
	}{
		{truth, true, true}, {variable("a"), true, true}, {same("a", "b"), true, true}, {deep(api.MaxDeep - 1), true, true},
		{api.Expr{}, false, false}, {op(api.ENot), false, false}, {op(99), false, false}, {variable("9"), false, false}, {lit(vertex(-1)), false, false}, {deep(api.MaxDeep + 1), false, false},
		{op(api.EXor, truth, truth), true, false}, {api.Expr{Op: api.ECall, Text: "length", Args: []api.Expr{variable("a")}}, false, true}, {api.Expr{Op: api.EExists}, false, false}, {exists(api.Plan{}), false, false},
		{api.Expr{Op: api.EExists, Plan: []api.Plan{unit(), unit()}}, false, false}, {api.Expr{Op: api.EExists, Plan: []api.Plan{unit()}, Match: []api.Clause{{}}}, false, false},
		{agg("count"), false, false}, {op(api.ENot, agg("count")), false, false}, {op(api.EAdd, variable("a"), agg("sum", variable("a"))), false, false},
		{variable("z"), false, true}, {same("a", "z"), false, true}, {op(api.ENot, op(api.ENot, variable("z"))), false, true},
	} {
		for _, p := range holders(a.e) {
			checks(t, in(api.LangC, p), a.inC)
			if p.Op != api.PMatch {
				checks(t, in(api.LangS, p), a.inS)
			}
		}
	}
	for _, e := range []api.Expr{truth, variable("a"), op(api.ENot, agg("count")), op(api.EAdd, agg("count"), agg("count")), agg("none", truth), agg("sum"), agg("sum", agg("count"))} {
		checksIn(t, group(ab, "a", api.Agg{Var: "x", E: e}), false, false)
	}
	checksIn(t, group(ab, "a", api.Agg{Var: "x", E: agg("collect", variable("b"))}), true, false)
	checksIn(t, group(ab, "a", api.Agg{Var: "x", E: agg("sample", variable("b"))}), false, true)
}

// TestCheckThere: P10.2: in C an expression's variables are its In's: not what the plan makes, nor what In has dropped.
func TestCheckThere(t *testing.T) {
	c := variable("c")
	for _, a := range []struct {
		p   api.Plan
		inC bool
	}{
		{left(ab, values("c"), same("a", "c")), true}, {left(values("c"), ab, same("a", "c")), true}, {left(ab, ab, c), false},
		{extend(ab, "c", c), false}, {unwind(ab, "c", c), false}, {extend(extend(ab, "c", truth), "d", c), true},
		{filter(project(values("c"), "a"), c), false}, {filter(project(ab, "c"), c), true}, {filter(two(api.PMinus, ab, values("c")), c), false}, {filter(two(api.PUnion, ab, values("c")), c), true},
		{group(ab, "", api.Agg{Var: "c", E: agg("min", c)}), false}, {group(values("a c"), "a", api.Agg{Var: "x", E: agg("min", c)}), true}, {filter(group(values("a c"), "a"), c), false},
		{order(ab, variable("a"), c), false}, {order(values("c"), c), true}, {filter(unit(), c), false},
	} {
		checksIn(t, a.p, a.inC, true)
	}
	checks(t, filter(match(ab, "c", "c r c"), same("c", "r")), true)
	checks(t, match(filter(ab, c), "c"), false)
}

// TestExistsHolds: P10.2: plans in EExists may be, in each place.
func TestExistsHolds(t *testing.T) {
	for _, a := range []struct {
		p    api.Plan
		want bool
	}{
		{unit(), true}, {values("z"), true}, {filter(ab, variable("a")), true}, {extend(values("z"), "y", truth), true}, {project(values("z"), "q"), true},
		{api.Plan{Op: 99}, false}, {api.Plan{Op: api.PFilter}, false}, {values("z z"), false}, {extend(values("z"), "z", truth), false}, {filter(ab, api.Expr{}), false}, {filter(ab, agg("count")), false}, {join(unit(), slice(ab, -2, 0)), false},
		{group(ab, "", api.Agg{Var: "n", E: agg("count")}), true}, {group(ab, "", api.Agg{Var: "n", E: truth}), false}, {group(values("z"), "y"), false},
	} {
		for _, e := range []api.Expr{exists(a.p), op(api.ENot, op(api.EOr, truth, exists(a.p))), exists(filter(unit(), exists(a.p))), {Op: api.EExists, Flag: true, Plan: []api.Plan{a.p}}} {
			for _, p := range holders(e) {
				checks(t, in(api.LangC, p), a.want)
				if p.Op != api.PMatch {
					checks(t, in(api.LangS, p), a.want)
				}
			}
		}
	}
}

// TestExistsUnits: P10.2: PUnits in EExists' plans have the variables that are there.
func TestExistsUnits(t *testing.T) {
	asks := func(name string) api.Plan { return filter(unit(), variable(name)) }
	makes := func(name string) api.Plan { return extend(unit(), name, truth) }
	keys := func(name string) api.Plan { return group(unit(), name) }
	there := map[int]string{api.PLeft: "a b c", api.PMatch: "a b c"} // else a b
	for _, name := range names("a b c x z") {
		for i := range holders(truth) {
			for _, lang := range langs {
				of := func(inner api.Plan) api.Plan { return in(lang, holders(exists(inner))[i]) }
				o := of(unit()).Op
				if o == api.PMatch && lang == api.LangS {
					continue
				}
				isThere := strings.Contains("a b", name) || strings.Contains(there[o], name)
				checks(t, of(asks(name)), isThere || lang == api.LangS)
				checks(t, of(makes(name)), !isThere)
				checks(t, of(unwind(unit(), name, truth)), !isThere)
				checks(t, of(keys(name)), isThere)
				checks(t, of(join(values("q"), keys(name))), isThere)
				checks(t, of(keys("a")), true)
				checks(t, of(filter(project(unit(), "q"), exists(keys(name)))), false) // a and b are not in that inner place
				checks(t, of(filter(join(values("q"), unit()), exists(keys(name)))), isThere)
				checks(t, of(filter(join(values("q"), unit()), exists(keys("q")))), true)
				checks(t, of(filter(values("q"), exists(makes(name)))), true)
				checks(t, of(filter(extend(values("q"), name, truth), exists(makes(name)))), false)
				checks(t, of(join(filter(values("q"), exists(keys("q"))), keys(name))), isThere) // and back in the outer one
			}
		}
	}
	for _, inner := range []api.Plan{match(unit(), "n", "n a n"), match(unit(), "n", "n b n")} {
		checks(t, filter(ab, exists(inner)), false)
	}
	checks(t, filter(ab, exists(match(unit(), "a b n", "a r n"))), true)
	checks(t, filter(ab, exists(filter(match(unit(), "n", "n r n"), same("a", "r")))), true)
	checks(t, filter(ab, exists(filter(match(unit(), "n", "n r n"), same("z", "r")))), false)
}

// TestUnitsOutside: P10.2: PUnits outside of EExists have no variables, beside one too.
func TestUnitsOutside(t *testing.T) {
	checksIn(t, join(filter(ab, exists(unit())), extend(unit(), "a", truth)), true, true)
	checksIn(t, filter(join(ab, extend(unit(), "a", truth)), exists(unit())), true, true)
	checksIn(t, join(filter(ab, exists(unit())), group(unit(), "a")), false, false)
	hasIn(t, filter(join(unit(), ab), exists(join(unit(), values("z")))), "a b")
}

// chain tells n plans, one in another, over a PUnit.
func chain(n int) api.Plan {
	p := unit()
	for range n - 1 {
		p = one(api.PDistinct, p)
	}
	return p
}

// conditions tells an expression of n parts, none of them deep in another.
func conditions(n int) api.Expr {
	return api.Expr{Op: api.ECall, Text: "coalesce", Args: slices.Repeat([]api.Expr{truth}, n-1)}
}

// TestCheckParts: P10.2: at most MaxParts plans and expressions in all; no plan is too deep.
func TestCheckParts(t *testing.T) {
	most := api.MaxParts
	half := most / 2
	count := func(e api.Expr) api.Agg { return api.Agg{Var: "n", E: agg("count", e)} }
	spread := func(n int) []api.Expr { return slices.Repeat([]api.Expr{conditions(n)}, 8) }
	for i, tell := range []func(n int) api.Plan{ // each of n parts
		chain,
		func(n int) api.Plan { return join(chain(half), chain(n-half-1)) },
		func(n int) api.Plan { return filter(unit(), conditions(n-2)) },
		func(n int) api.Plan { return filter(chain(half), conditions(n-1-half)) },
		func(n int) api.Plan { return filter(unit(), exists(chain(n-3))) },
		func(n int) api.Plan { return filter(unit(), op(api.EOr, exists(chain(half)), exists(chain(n-half-5)))) },
		func(n int) api.Plan { return filter(unit(), exists(filter(unit(), conditions(n-5)))) },
		func(n int) api.Plan { return group(unit(), "", count(conditions(n-3))) },
		func(n int) api.Plan { return order(unit(), conditions(half), conditions(n-half-2)) },
		func(n int) api.Plan { return order(chain(n-1-8*400), spread(400)...) },
		func(n int) api.Plan { return left(chain(half), unit(), conditions(n-half-2)) },
	} {
		for _, lang := range langs {
			if !Check(in(lang, tell(most-1))) || !Check(in(lang, tell(most))) || Check(in(lang, tell(most+1))) || Check(in(lang, tell(most+500))) {
				t.Errorf("lang %d, plan %d: %v, %v, %v, %v", lang, i, Check(in(lang, tell(most-1))), Check(in(lang, tell(most))), Check(in(lang, tell(most+1))), Check(in(lang, tell(most+500))))
			}
		}
	}
	if got := Size(chain(most)); got != most {
		t.Errorf("Size: %d", got)
	}
	optional := with(match(unit(), "a"), conditions(most-2))
	optional.Flag = true
	checks(t, optional, true)
	checks(t, with(optional, conditions(most-1)), false)
}

// TestCheckMaxVars: P10.2: at most MaxVars variables each, in EExists' plans too.
func TestCheckMaxVars(t *testing.T) {
	most := api.MaxVars
	spots := func(in api.Plan, from, n int) api.Plan { return match(in, strings.Join(v(from, n), " ")) }
	aggs := func(n int) (l []api.Agg) {
		for _, name := range v(100, n) {
			l = append(l, api.Agg{Var: name, E: agg("count")})
		}
		return l
	}
	var patterns []api.Pattern
	for _, name := range v(0, most+1) {
		patterns = append(patterns, api.Pattern{S: unbound("v0"), P: iri("p"), O: unbound(name)})
	}
	for _, a := range []struct {
		p        api.Plan
		inC, inS bool
	}{
		{wide(0, most), true, true}, {wide(0, most+1), false, false}, {project(unit(), strings.Join(v(0, most), " ")), true, true}, {project(unit(), strings.Join(v(0, most+1), " ")), false, false},
		{join(wide(0, 40), wide(24, 40)), true, true}, {join(wide(0, 40), wide(25, 40)), false, false}, {two(api.PUnion, wide(0, 40), wide(25, 40)), false, false}, {left(wide(0, 40), wide(25, 40), truth), false, false}, {left(wide(0, 40), wide(24, 40), truth), true, true},
		{two(api.PMinus, wide(0, 40), wide(40, 40)), true, true}, {two(api.PMinus, wide(0, 40), join(wide(0, 40), wide(40, 40))), false, false}, {project(join(wide(0, 40), wide(25, 40)), "v0"), false, false},
		{extend(wide(0, most-1), "x", truth), true, true}, {extend(wide(0, most), "x", truth), false, false}, {unwind(wide(0, most-1), "x", truth), true, true}, {unwind(wide(0, most), "x", truth), false, false},
		{group(wide(0, 60), strings.Join(v(0, 60), " "), aggs(4)...), true, true}, {group(wide(0, 60), strings.Join(v(0, 60), " "), aggs(5)...), false, false}, {group(unit(), "", aggs(most)...), true, true}, {group(unit(), "", aggs(most+1)...), false, false},
		{bgp(patterns[:most]...), false, true}, {join(bgp(patterns[:most]...), bgp(patterns[1:]...)), false, false},
		{spots(unit(), 0, most), true, false}, {spots(unit(), 0, most+1), false, false}, {spots(wide(0, 40), 24, 40), true, false}, {spots(wide(0, 40), 25, 40), false, false},
		{filter(wide(0, most), exists(unit())), true, true}, {filter(wide(0, most), exists(join(unit(), wide(1, most-1)))), true, true}, {filter(wide(0, most), exists(join(unit(), wide(1, most)))), false, false}, {filter(wide(0, most), exists(wide(most, most))), true, true},
		{filter(wide(0, most), exists(extend(unit(), "x", truth))), false, false}, {filter(wide(0, most-1), exists(extend(unit(), "x", truth))), true, true}, {filter(wide(0, most), exists(filter(unit(), exists(join(unit(), values("x")))))), false, false},
	} {
		checksIn(t, a.p, a.inC, a.inS)
	}
	hop := match(wide(0, 62), "v0", "v0 x v0", "v0 y v0")
	checks(t, hop, true)
	checks(t, match(wide(0, 62), "v0 v1 v2", "v0 x v0", "v0 y v0", "v1 z v2"), false)
}

// TestSize: P10.3: how many plans, with those in EExists.
func TestSize(t *testing.T) {
	for _, a := range []struct {
		p    api.Plan
		want int
	}{
		{unit(), 1}, {ab, 1}, {join(ab, ab), 3}, {filter(join(ab, unit()), truth), 4}, {filter(ab, exists(unit())), 3}, {filter(ab, op(api.EOr, exists(unit()), exists(join(ab, ab)))), 6},
		{filter(ab, exists(filter(unit(), exists(unit())))), 5}, {order(ab, exists(unit()), variable("a"), exists(unit())), 4}, {group(ab, "", api.Agg{Var: "x", E: agg("count", exists(filter(ab, truth)))}), 4},
		{left(ab, filter(ab, exists(ab)), exists(unit())), 6}, {filter(ab, op(api.EAnd, truth, same("a", "b"))), 2}, {chain(3000), 3000},
	} {
		for _, lang := range langs {
			if got := Size(in(lang, a.p)); got != a.want {
				t.Errorf("Size: %d; want %d: %s", got, a.want, short(a.p))
			}
		}
	}
}

// TestLines: P10.3: a line a plan, In behind it and further in; plans of EExists have no line.
func TestLines(t *testing.T) {
	s := in(api.LangS, project(join(unit(), bgp(api.Pattern{S: unbound("x"), P: iri("p"), O: unbound("y")})), "x"))
	for _, a := range []struct {
		p    api.Plan
		want string
	}{
		{s, "16 x\n  5 x y\n    1\n    3 x y\n"}, // the chapter's example
		{unit(), "1\n"}, {values("b a"), "2 b a\n"},
		{two(api.PUnion, filter(extend(unit(), "x", truth), truth), left(values("y"), project(unit(), ""), truth)), "7 x y\n  9 x\n    10 x\n      1\n  6 y\n    2 y\n    16\n      1\n"},
		{match(values("q"), "b a", "a r b"), "4 q b a r\n  2 q\n"},
		{slice(order(one(api.PDistinct, group(unwind(ab, "u", truth), "u", api.Agg{Var: "n", E: agg("count")})), truth), 1, -1), "15 u n\n  14 u n\n    13 u n\n      12 u n\n        11 a b u\n          2 a b\n"},
		{two(api.PMinus, values("a"), values("b")), "8 a\n  2 a\n  2 b\n"},
		{filter(order(ab, exists(values("z"))), exists(join(unit(), unit()))), "9 a b\n  14 a b\n    2 a b\n"},
	} {
		if got := Lines(a.p); got != a.want {
			t.Errorf("Lines:\n%swant\n%s", got, a.want)
		}
	}
	lines := strings.Split(Lines(chain(api.MaxParts)), "\n")
	for deep, line := range lines[:api.MaxParts] {
		want := strings.Repeat("  ", deep) + "13"
		if deep == api.MaxParts-1 {
			want = strings.Repeat("  ", deep) + "1"
		}
		if line != want {
			t.Fatalf("line %d of %d: %q", deep, len(lines), line)
		}
	}
	if len(lines) != api.MaxParts+1 || lines[api.MaxParts] != "" {
		t.Errorf("%d lines", len(lines))
	}
}

// rich tells a plan of C and one of S with something of everything.
func rich() []api.Plan {
	inner := filter(join(unit(), values("z")), op(api.EOr, same("a", "z"), exists(filter(unit(), variable("z")))))
	optional := with(match(ab, "a c", "a r c"), op(api.EAnd, exists(inner), same("r", "b")))
	optional.Flag = true
	optional.Spots[0].Labels, optional.Hops[0].Types = []string{"L"}, []string{"T", "U"}
	top := func(p api.Plan) api.Plan {
		p = unwind(extend(left(p, values("w"), same("a", "w")), "x", lit(list(num(1), text("t")))), "y", variable("a"))
		p = group(p, "y a", api.Agg{Var: "n", E: agg("count", exists(inner))}, api.Agg{Var: "m", E: agg("min", variable("x"))})
		return slice(order(project(p, "n y"), variable("n"), truth), 1, 2)
	}
	table := values("a b")
	table.Rows = [][]api.Value{{num(1), list(text("t"), list())}, {{}, {}}}
	patterns := bgp(api.Pattern{S: unbound("a"), P: iri("p"), O: text("o")}, api.Pattern{S: blank("b"), P: unbound("q"), O: unbound("b")})
	return []api.Plan{in(api.LangC, top(join(optional, table))), in(api.LangS, top(join(patterns, two(api.PMinus, table, ab))))}
}

// everything asks all calls for what they tell of p.
func everything(p api.Plan) string {
	return fmt.Sprintf("%v %q %d %q", Check(p), Vars(p), Size(p), Lines(p))
}

// loose tells a copy of v whose lists each have more behind their lengths than they show.
func loose(v reflect.Value) reflect.Value {
	told := reflect.New(v.Type()).Elem()
	switch v.Kind() {
	case reflect.Slice:
		if v.Len() > 0 {
			told.Set(reflect.MakeSlice(v.Type(), v.Len(), v.Len()+3))
		}
		for i := range v.Len() {
			told.Index(i).Set(loose(v.Index(i)))
		}
	case reflect.Struct:
		for i := range v.NumField() {
			told.Field(i).Set(loose(v.Field(i)))
		}
	default:
		told.Set(v)
	}
	return told
}

// behindIsLeft tells whether what stands behind the lengths is zero still.
func behindIsLeft(v reflect.Value) bool {
	switch v.Kind() {
	case reflect.Slice:
		behind := v.Slice(0, v.Cap())
		for i := range v.Cap() {
			if i < v.Len() && !behindIsLeft(behind.Index(i)) || i >= v.Len() && !behind.Index(i).IsZero() {
				return false
			}
		}
	case reflect.Struct:
		for i := range v.NumField() {
			if !behindIsLeft(v.Field(i)) {
				return false
			}
		}
	}
	return true
}

// TestHandedInIsLeft: P10.4 (R2): nothing that is handed in is changed, nor anything behind its lists.
func TestHandedInIsLeft(t *testing.T) {
	for i, p := range rich() {
		checks(t, p, true)
		want := everything(p)
		given := loose(reflect.ValueOf(p)).Interface().(api.Plan)
		if got := everything(given); got != want {
			t.Errorf("%d: with loose lists: %s; want %s", i, got, want)
		}
		if !reflect.DeepEqual(given, p) {
			t.Errorf("%d: changed: %s", i, short(given))
		}
		if !behindIsLeft(reflect.ValueOf(given)) {
			t.Errorf("%d: written behind a list's length", i)
		}
	}
}

// TestBehindIsNotRead: P10.4 (R2): what stands behind a list's length has no part in what is told.
func TestBehindIsNotRead(t *testing.T) {
	bad := api.Plan{Op: 99, Lang: 7}
	p := join(ab, ab)
	p.In = append(p.In, bad)[:2]
	p.E = []api.Expr{{}}[:0]
	p.Vars = []string{"9"}[:0]
	p.Sorts, p.Aggs, p.Rows = []api.Sort{{}}[:0], []api.Agg{{}}[:0], [][]api.Value{{}}[:0]
	hasIn(t, p, "a b")
	q := match(unit(), "a b", "a r b", "b 9 a")
	q.Hops, q.Spots = q.Hops[:1], append(q.Spots, api.Spot{})[:2]
	has(t, q, "a b r")
}

// TestToldIsNew: P10.4 (R2): what Vars tells may be written over.
func TestToldIsNew(t *testing.T) {
	plans := append(rich(), ab, project(ab, "b a"), filter(ab, truth), match(unit(), "a b"), in(api.LangS, bgp(api.Pattern{S: unbound("a"), P: unbound("b"), O: iri("c")})))
	for i, p := range plans {
		want := everything(p)
		told := Vars(p)
		for k := range told {
			told[k] = "written"
		}
		for k := range cap(told) {
			told[:cap(told)][k] = "over"
		}
		if got := everything(p); got != want {
			t.Errorf("%d: %s; want %s", i, got, want)
		}
	}
}

// lent tells a text that stands in bytes which may be written over.
func lent(s string) (string, []byte) {
	b := []byte(s)
	return unsafe.String(&b[0], len(b)), b
}

// TestTextsWrittenOver: P10.4 (R2): the names that are told share no bytes with those handed in.
func TestTextsWrittenOver(t *testing.T) {
	for i, tell := range []func(name string) api.Plan{
		func(name string) api.Plan { return api.Plan{Op: api.PValues, Vars: []string{name}} },
		func(name string) api.Plan {
			return api.Plan{Op: api.PProject, In: []api.Plan{unit()}, Vars: []string{name}}
		},
		func(name string) api.Plan { return extend(unit(), name, truth) },
		func(name string) api.Plan { return match(unit(), name) },
		func(name string) api.Plan { return group(unit(), "", api.Agg{Var: name, E: agg("count")}) },
		func(name string) api.Plan {
			return in(api.LangS, bgp(api.Pattern{S: api.Value{Text: name}, P: iri("p"), O: iri("o")}))
		},
	} {
		name, bytes := lent("name")
		p := tell(name)
		if p.Op == api.PMatch {
			p.Spots[0].Var = name
		}
		vars, lines := Vars(p), Lines(p)
		copy(bytes, "OVER")
		if !slices.Equal(vars, []string{"name"}) || !strings.Contains(lines, " name\n") {
			t.Errorf("%d: %q, %q", i, vars, lines)
		}
	}
}

// TestEmptyLists: P10.4 (R2): nil and empty lists are one, and none is told as nil.
func TestEmptyLists(t *testing.T) {
	for _, p := range []api.Plan{unit(), {Op: api.PUnit, Vars: []string{}}, project(ab, ""), {Op: api.PValues, Vars: []string{}, Rows: [][]api.Value{}}, {}, {Op: 99}, filter(unit(), variable("x"))} {
		if got := Vars(p); got != nil {
			t.Errorf("Vars: %#v", got)
		}
	}
}

// TestEnds: P10.4 (R3): whatever is handed in.
func TestEnds(t *testing.T) {
	deep := unit()
	for range 1 << 16 {
		deep = one(api.PDistinct, deep)
	}
	within := unit()
	for range 1 << 15 {
		within = filter(unit(), exists(within))
	}
	nested := num(1)
	for range 1 << 16 {
		nested = list(nested)
	}
	not := truth
	for range 1 << 16 {
		not = op(api.ENot, not)
	}
	many := slices.Repeat([]api.Plan{unit()}, 1<<16)
	huge := match(unit(), "a")
	huge.Hops = slices.Repeat([]api.Hop{{From: "a", To: "a", Edge: "r"}}, 1<<17)
	spots := match(unit(), "a")
	spots.Spots = slices.Repeat(spots.Spots, 1<<17)
	wideGroup := group(unit(), "")
	wideGroup.Aggs = slices.Repeat([]api.Agg{{Var: "n", E: agg("count")}}, 1<<17)
	for _, p := range []api.Plan{
		deep, within, filter(unit(), not), filter(unit(), lit(nested)), {Op: api.PValues, Vars: []string{"a"}, Rows: [][]api.Value{{nested}}}, in(api.LangS, bgp(api.Pattern{S: nested, P: nested, O: nested})),
		{Op: api.PJoin, In: many}, {Op: api.PUnit, In: many}, {Op: 99, In: many}, huge, spots, wideGroup, order(unit(), slices.Repeat([]api.Expr{truth}, 1<<17)...), filter(unit(), conditions(1<<17)),
		{Op: api.PProject, In: []api.Plan{unit()}, Vars: v(0, 1<<16)}, {Op: api.PValues, Vars: v(0, 1<<16)}, {Op: api.PFilter, E: []api.Expr{{Op: api.EExists}}}, {Op: api.PMinus}, {Op: api.PMatch}, {Op: api.PExtend}, {Op: api.PGroup, Vars: []string{"x"}},
	} {
		checks(t, p, false)
	}
}

// TestAskedAtOnce: P10.4 (R6): many may ask at once.
func TestAskedAtOnce(t *testing.T) {
	plans := rich()
	var group sync.WaitGroup
	for _, p := range plans {
		want := everything(p)
		for range 8 {
			group.Go(func() {
				if got := everything(p); got != want {
					t.Errorf("%s; want %s", got, want)
				}
			})
		}
	}
	group.Wait()
}

// TestFace: the face stands as it is given.
func TestFace(t *testing.T) {
	var _ func(api.Plan) bool = Check
	var _ func(api.Plan) []string = Vars
	var _ func(api.Plan) int = Size
	var _ func(api.Plan) string = Lines
}
