package plan

import (
	"fmt"
	"math"
	"slices"
	"strings"
	"testing"

	"diptych/algebra"
	"diptych/api"
	"diptych/hyper"
	"diptych/rewrite"
)

// optionsAtEdges tells options of which one is at an edge, or one beyond it.
func optionsAtEdges(at func(o *api.Options) *int, values ...int) []api.Options {
	var l []api.Options
	for _, n := range values {
		for _, o := range []api.Options{options(), {Width: 1, Batch: 1}, {Rules: api.RuleAll, Width: 8, Seed: -3, Join: api.JoinTrie, Batch: api.MaxBatch, Budget: math.MaxInt}} {
			*at(&o) = n
			l = append(l, o)
		}
	}
	return l
}

var (
	rulesOf  = func(o *api.Options) *int { return &o.Rules }
	widthOf  = func(o *api.Options) *int { return &o.Width }
	seedOf   = func(o *api.Options) *int { return &o.Seed }
	joinOf   = func(o *api.Options) *int { return &o.Join }
	batchOf  = func(o *api.Options) *int { return &o.Batch }
	budgetOf = func(o *api.Options) *int { return &o.Budget }
)

func goodOptions() []api.Options {
	return slices.Concat(
		optionsAtEdges(rulesOf, 0, 1, api.RulePush, api.RuleFold, api.RuleLeft, api.RulePrune, api.RuleMerge, 30, 31),
		optionsAtEdges(widthOf, 1, 2, 7, 8),
		optionsAtEdges(seedOf, 0, 1, -1, math.MinInt, math.MaxInt),
		optionsAtEdges(joinOf, api.JoinHash, api.JoinLoop, api.JoinTrie, 0, 2),
		optionsAtEdges(batchOf, 1, 2, 4095, 4096),
		optionsAtEdges(budgetOf, 0, 1, 1<<40, math.MaxInt),
	)
}

func badOptions() []api.Options {
	return slices.Concat(
		optionsAtEdges(rulesOf, -1, 32, 33, 64, math.MinInt, math.MaxInt),
		optionsAtEdges(widthOf, 0, 9, -1, math.MinInt, math.MaxInt),
		optionsAtEdges(joinOf, -1, 3, math.MinInt, math.MaxInt),
		optionsAtEdges(batchOf, 0, 4097, -1, math.MinInt, math.MaxInt),
		optionsAtEdges(budgetOf, -1, math.MinInt),
		[]api.Options{{}},
	)
}

// TestCheck: P17.1: the least and the greatest of each option may be, one beyond may not.
func TestCheck(t *testing.T) {
	for _, o := range goodOptions() {
		if !Check(o) {
			t.Errorf("%+v may be", o)
		}
	}
	for _, o := range badOptions() {
		if Check(o) {
			t.Errorf("%+v may not be", o)
		}
	}
}

// badPlans are some of the plans that may not be.
func badPlans() []api.Plan {
	mixed := distinct(named("a"))
	mixed.In[0].Lang = api.LangC
	far := unit()
	far.Lang = 7
	many := unit()
	for range api.MaxParts {
		many = distinct(many)
	}
	return []api.Plan{
		{}, {Op: 99, Lang: api.LangS}, {Op: -1}, far, mixed, many, inC(named("a")), distinct(api.Plan{}), plan(api.PDistinct, api.Plan{}),
		triples("?1 p o"), plan(api.PBgp, api.Plan{Bgp: []api.Pattern{{S: num(1), P: num(1), O: num(1)}}}), filter(named("a"), at("")), filter(named("a"), exists(api.Plan{})), filter(named("a"), exists(inC(unit()))),
		triples(strings.Repeat("?a p o.", 65)), extend(named("a"), "a", yes), filter(named("a"), agg("count")),
	}
}

// TestMakeRefuses: P17.2: ErrPlan ahead of ErrArg, and nothing beside.
func TestMakeRefuses(t *testing.T) {
	good := []api.Plan{unit(), inC(unit()), named("a"), project(join(named("a"), named("b")), "b"), path(inC(unit()), "a")}
	for _, p := range badPlans() {
		refused(t, p, options(), api.ErrPlan)
		for _, o := range badOptions() {
			refused(t, p, o, api.ErrPlan)
		}
	}
	for _, o := range badOptions() {
		for _, p := range good {
			refused(t, p, o, api.ErrArg)
		}
	}
}

// TestOptions: P17.2: the options are told as they were.
func TestOptions(t *testing.T) {
	for _, o := range goodOptions() {
		for _, p := range []api.Plan{unit(), inC(unit()), filter(both(named("a"), named("b")), yes)} {
			if got := made(t, p, o).Options(); got != o {
				t.Errorf("%+v, not %+v", got, o)
			}
		}
	}
}

// plans are some that may be, with PBgps at all places.
func plans() []api.Plan {
	asks := func(name string) api.Expr {
		return op(api.EAnd, op(api.ENot, exists(filter(named(name), no))), op(api.EOr, exists(named(name+"x")), yes))
	}
	long := filter(both(filter(extend(named("first"), "e", asks("one")), asks("two")), left(named("second"), unit(), yes)), op(api.EEq, at("e"), lit(list(text("long text"), list(text("within"))))))
	return []api.Plan{
		unit(), inC(unit()), inC(distinct(both(values("x", []api.Value{num(1)}), unit()))), path(path(inC(unit()), "one"), "two"),
		triples(""), named("a"), triples("?alpha ?beta ?gamma. ?gamma p ?alpha"), join(named("a"), join(named("b"), named("c"))), filter(named("a"), no), filter(both(named("a"), named("b")), op(api.EEq, at("a"), lit(num(1)))),
		project(project(extend(named("a"), "b", asks("c")), "a b"), "a"), long, slice(order(groupBy(long, "first", agg("count"), agg("max", op(api.EEq, at("e"), asks("three")))), asks("four"), at("first")), 1, 5),
		unwind(minus(distinct(long), values("first e", []api.Value{text("a text"), {}})), "third", call("if", exists(triples("?first p ?x. ?x q ?e")), at("e"), asks("five"))),
	}
}

// TestPlan: P17.2: the plan is what rewrite.Apply makes of it, by whichever rules.
func TestPlan(t *testing.T) {
	for _, p := range plans() {
		for rules := range api.RuleAll + 1 {
			want, err := rewrite.Apply(p, rules)
			if err != api.OK {
				t.Fatalf("%d of%s", err, short(p))
			}
			if got := made(t, p, by(rules)).Plan(); !alike(got, want) {
				t.Errorf("by %d, of%s:%s\nnot%s", rules, short(p), short(got), short(want))
			}
		}
		if got := made(t, p, options()).Plan(); !alike(got, p) {
			t.Errorf("by no rules, of%s:%s", short(p), short(got))
		}
	}
}

// TestBgps: P17.3: how many PBgps there are, in which order.
func TestBgps(t *testing.T) {
	abc := join(join(named("a"), named("b")), named("c"))
	asks := exists(both(named("x"), filter(named("y"), exists(named("z")))))
	inIf := call("if", exists(named("p")), op(api.EEq, exists(named("q")), yes), exists(named("r")))
	for _, c := range []struct {
		what, want string
		n          int
		p          api.Plan
	}{
		{"no PBgp", "", 0, unit()},
		{"no PBgp in a tall plan", "", 0, slice(distinct(join(values("a"), unit())), 1, 1)},
		{"no PBgp in C", "", 0, path(inC(join(unit(), values("x"))), "a")},
		{"no PBgp within an EExists", "", 0, filter(unit(), exists(filter(unit(), exists(unit()))))},
		{"one", "a", 1, named("a")},
		{"one without patterns", "", 1, triples("")},
		{"one without variables", "", 1, triples("a b c. d e f")},
		{"two without patterns", "|", 2, both(triples(""), triples(""))},
		{"one below much", "a", 1, slice(order(distinct(project(extend(named("a"), "b", at("a")), "a")), at("a")), 0, 2)},
		{"two of a join", "a|b", 2, join(named("a"), named("b"))},
		{"three, the left one deeper", "a|b|c", 3, abc},
		{"three, the right one deeper", "a|b|c", 3, join(named("a"), join(named("b"), named("c")))},
		{"the same one twice", "a|a", 2, both(named("a"), named("a"))},
		{"of a union", "a|b|c|d", 4, both(abc, named("d"))},
		{"of a difference", "b|a", 2, minus(named("b"), named("a"))},
		{"within an EExists alone", "a", 1, filter(unit(), exists(named("a")))},
		{"behind the In", "a|b|c|x|y|z", 6, filter(abc, asks)},
		{"behind both In of a left join", "d|a|b|c|x|y|z|e", 8, both(left(named("d"), abc, asks), named("e"))},
		{"of an EExists within an EExists behind what stands beside it", "x|y|z", 3, filter(unit(), asks)},
		{"of an EExists behind the In of its own place alone", "a|x|y|z|b", 5, join(filter(named("a"), asks), named("b"))},
		{"one EExists after another", "a|x|y|z|u|v", 6, filter(filter(filter(named("a"), asks), exists(named("u"))), exists(named("v")))},
		{"in an expression, from its left", "a|p|q|r", 4, filter(named("a"), inIf)},
		{"not there", "a|b", 2, filter(named("a"), op(api.ENot, api.Expr{Op: api.EExists, Flag: true, Plan: []api.Plan{named("b")}}))},
		{"in a PExtend", "a|x|y|z", 4, extend(named("a"), "n", asks)},
		{"in a PUnwind", "a|x|y|z", 4, unwind(named("a"), "n", asks)},
		{"in the keys of an order", "a|u|x|y|z|v", 6, order(named("a"), exists(named("u")), at("a"), asks, exists(named("v")))},
		{"in aggregates", "a|u|x|y|z|v", 6, groupBy(named("a"), "a", agg("max", exists(named("u"))), agg("count"), agg("sum", asks), agg("sample", op(api.ENot, exists(named("v")))))},
		{"in a case", "s|t|u|v|w", 5, filter(unit(), op(api.ECase, exists(named("s")), exists(named("t")), exists(named("u")), exists(named("v")), exists(named("w"))))},
	} {
		m := made(t, c.p, options())
		if got := orders(t, m); m.Bgps() != c.n || got != c.want {
			t.Errorf("%s: %d, %s; want %d, %s", c.what, m.Bgps(), got, c.n, c.want)
		}
	}
}

// TestBgpsOfRewritten: P17.3: those of the rewritten plan are told, not those of the one that was handed in.
func TestBgpsOfRewritten(t *testing.T) {
	asks := exists(named("x"))
	for _, c := range []struct {
		p     api.Plan
		rules int
		want  string
		n     int
	}{
		{join(filter(named("a"), no), named("b")), 0, "a|b", 2},
		{join(filter(named("a"), no), named("b")), api.RuleFold, "b", 1},
		{filter(join(named("a"), named("b")), no), api.RuleAll, "", 0},
		{project(extend(named("a"), "b", asks), "a"), api.RulePush | api.RuleFold | api.RuleLeft | api.RuleMerge, "a|x", 2},
		{project(extend(named("a"), "b", asks), "a"), api.RulePrune, "a", 1},
		{filter(filter(named("a"), asks), exists(named("b"))), api.RuleMerge, "a|x|b", 3},
		{filter(named("a"), exists(filter(named("b"), no))), 0, "a|b", 2},
	} {
		m := made(t, c.p, by(c.rules))
		if got := orders(t, m); m.Bgps() != c.n || got != c.want {
			t.Errorf("by %d: %d, %s; want %d, %s, of%s", c.rules, m.Bgps(), got, c.n, c.want, short(c.p))
		}
	}
}

// TestNoSuchBgp: P17.3: ErrArg, and nothing beside, where there is no i-th.
func TestNoSuchBgp(t *testing.T) {
	for _, p := range plans() {
		m := made(t, p, options())
		for _, i := range []int{-1, m.Bgps(), m.Bgps() + 1, math.MinInt, math.MaxInt, -m.Bgps() - 1} {
			names, err := m.Order(i)
			l, bad := m.Bags(i)
			if names != nil || err != api.ErrArg || l != nil || bad != api.ErrArg {
				t.Errorf("%d of %d: %v, %d; %v, %d", i, m.Bgps(), names, err, l, bad)
			}
		}
		for i := range m.Bgps() {
			if _, err := m.Order(i); err != api.OK {
				t.Errorf("%d of %d: %d", i, m.Bgps(), err)
			}
			if _, err := m.Bags(i); err != api.OK && err != api.ErrWidth {
				t.Errorf("%d of %d: %d", i, m.Bgps(), err)
			}
		}
	}
}

// star tells a PBgp of so many patterns, with a variable each beside one that all have.
func star(n int) api.Plan {
	var s strings.Builder
	for i := range n {
		fmt.Fprintf(&s, "?m p ?v%d.", i)
	}
	return triples(s.String())
}

// sample is patterns and the least width of their hypergraph.
type sample struct {
	what, patterns string
	width          int
}

func samples() []sample {
	return []sample{
		{"no patterns", "", 0},
		{"no variables", "a b c. d e f", 0},
		{"a variable", "?x p o", 1},
		{"a variable at each place", "?x ?y ?z", 1},
		{"a variable twice in a pattern", "?x p ?x", 1},
		{"a variable at all places", "?x ?x ?x", 1},
		{"a variable twice in a pattern of two", "?x ?y ?x. ?y p ?z", 1},
		{"patterns with and without variables", "a b c. ?x p ?y. d e f", 1},
		{"the same pattern eight times", strings.Repeat("?x p ?y.", 8), 1},
		{"a path", "?a p ?b. ?b p ?c. ?c p ?d", 1},
		{"a path in disorder", "?c p ?d. ?a p ?b. ?b p ?c", 1},
		{"patterns apart", "?a p ?b. ?c p ?d. ?e p ?f. ?g p ?h. ?i p ?j. ?k p ?l", 1},
		{"joined by what stands in the middle", "?a ?p ?b. ?c ?p ?d. ?e ?q ?f. ?g ?q ?p", 1},
		{"a triangle", "?a p ?b. ?b p ?c. ?c p ?a", 2},
		{"a triangle and its face", "?a p ?b. ?b p ?c. ?c p ?a. ?a ?b ?c", 1},
		{"a triangle through the middle", "?a ?b o. ?b p ?c. ?a p ?c", 2},
		{"a cycle of four", "?a p ?b. ?b p ?c. ?c p ?d. ?d p ?a", 2},
		{"a cycle of eight", "?a p ?b. ?b p ?c. ?c p ?d. ?d p ?e. ?e p ?f. ?f p ?g. ?g p ?h. ?h p ?a", 2},
		{"four, each with each", "?a p ?b. ?a p ?c. ?a p ?d. ?b p ?c. ?b p ?d. ?c p ?d", 2},
		{"Fano's plane", "?a ?b ?c. ?a ?d ?e. ?a ?f ?g. ?b ?d ?f. ?b ?e ?g. ?c ?d ?g. ?c ?e ?f", 3},
		{"the corners of a cube: eight patterns, twelve variables", "?a ?b ?c. ?a ?d ?e. ?f ?b ?g. ?f ?d ?h. ?i ?j ?c. ?i ?k ?e. ?l ?j ?g. ?l ?k ?h", 3},
	}
}

// variables tells the variables of each pattern, each once, by the words of triples.
func variables(patterns string) (edges [][]string, all []string) {
	for t := range strings.SplitSeq(patterns, ".") {
		var e []string
		for _, w := range strings.Fields(t) {
			name, is := strings.CutPrefix(w, "?")
			if is && !slices.Contains(e, name) {
				e = append(e, name)
			}
			if is && !slices.Contains(all, name) {
				all = append(all, name)
			}
		}
		if len(strings.Fields(t)) == 3 {
			edges = append(edges, e)
		}
	}
	return edges, all
}

// TestBags: P17.3, P17.4: a decomposition where the width is enough, ErrWidth where it is not.
func TestBags(t *testing.T) {
	for _, c := range samples() {
		edges, _ := variables(c.patterns)
		for width := 1; width <= 8; width++ {
			for _, seed := range []int{0, 1, 2, 77, -1, math.MinInt, math.MaxInt} {
				l, err := bagsOf(t, triples(c.patterns), wide(width, seed))
				switch {
				case width < c.width && (l != nil || err != api.ErrWidth):
					t.Errorf("%s in %d: %v, %d; want ErrWidth", c.what, width, l, err)
				case width >= c.width && (err != api.OK || !hyper.Check(edges, l, width)):
					t.Errorf("%s in %d by %d: %v, %d", c.what, width, seed, l, err)
				}
				again, bad := bagsOf(t, triples(c.patterns), wide(width, seed))
				if !alike(l, again) || err != bad {
					t.Errorf("%s in %d by %d: %v, then %v", c.what, width, seed, l, again)
				}
			}
		}
	}
}

// TestBagsOfEach: P17.3: each PBgp has its own bags, and its own error; those in an EExists likewise.
func TestBagsOfEach(t *testing.T) {
	triangle := triples("?a p ?b. ?b p ?c. ?c p ?a")
	p := filter(join(triangle, triples("?x p ?y. ?y q ?z")), op(api.EAnd, exists(star(9)), exists(join(named("u"), triangle))))
	for width, want := range map[int][]api.Errno{1: {api.ErrWidth, api.OK, api.ErrArg, api.OK, api.ErrWidth}, 2: {api.OK, api.OK, api.ErrArg, api.OK, api.OK}} {
		m := made(t, p, wide(width, 0))
		if m.Bgps() != len(want) {
			t.Fatalf("%d PBgps", m.Bgps())
		}
		for i, patterns := range []string{"?a p ?b. ?b p ?c. ?c p ?a", "?x p ?y. ?y q ?z", "", "?u p o", "?a p ?b. ?b p ?c. ?c p ?a"} {
			edges, _ := variables(patterns)
			if l, err := m.Bags(i); err != want[i] || err == api.OK && !hyper.Check(edges, l, width) || err != api.OK && l != nil {
				t.Errorf("%d in %d: %v, %d", i, width, l, err)
			}
		}
	}
}

// TestNoHypergraph: P17.3: ErrArg of patterns that make no hypergraph, which have an order all the same.
func TestNoHypergraph(t *testing.T) {
	for _, c := range []struct {
		p    api.Plan
		want api.Errno
	}{
		{star(8), api.OK}, {star(9), api.ErrArg}, {star(63), api.ErrArg}, {triples(strings.Repeat("a b c.", 9)), api.ErrArg}, {triples(strings.Repeat("a b c.", 8)), api.OK}, {triples(strings.Repeat("?x p ?y.", 64)), api.ErrArg},
		{triples("?a ?b ?c. ?d ?e ?f. ?g ?h ?i. ?j ?k ?l"), api.OK}, {triples("?a ?b ?c. ?d ?e ?f. ?g ?h ?i. ?j ?k ?l. ?m p o"), api.ErrArg}, {triples("?a ?b ?c. ?d ?e ?f. ?g ?h ?i. ?j ?k ?l. ?l ?a ?l"), api.OK},
	} {
		for width := 1; width <= 8; width++ {
			if l, err := bagsOf(t, c.p, wide(width, 3)); err != c.want || (l == nil) != (err != api.OK) {
				t.Errorf("in %d: %v, %d; want %d, of%s", width, l, err, c.want, short(c.p))
			}
			holdsOrder(t, made(t, c.p, wide(width, 3)), 0, algebra.Vars(c.p))
		}
	}
}

// holdsOrder tells the i-th Order, which has to be a permutation of the variables.
func holdsOrder(t *testing.T, m *Physical, i int, vars []string) []string {
	t.Helper()
	got, err := m.Order(i)
	if err != api.OK || !slices.Equal(slices.Sorted(slices.Values(got)), slices.Sorted(slices.Values(vars))) {
		t.Fatalf("Order(%d): %v, %d of %v", i, got, err, vars)
	}
	return got
}

// TestOrder: P17.3, P17.4: a permutation of the variables, the same for the same plan and options.
func TestOrder(t *testing.T) {
	for _, c := range samples() {
		_, all := variables(c.patterns)
		for seed := -60; seed < 60; seed++ {
			got := holdsOrder(t, made(t, triples(c.patterns), wide(2, seed)), 0, all)
			again, _ := made(t, triples(c.patterns), wide(2, seed)).Order(0)
			if !slices.Equal(got, again) {
				t.Errorf("%s by %d: %v, then %v", c.what, seed, got, again)
			}
		}
		for _, seed := range []int{math.MinInt, math.MaxInt} {
			holdsOrder(t, made(t, triples(c.patterns), wide(2, seed)), 0, all)
		}
	}
}

// hangsTogether tells whether each variable of an order shares an edge with one ahead of it, if one of those left does.
func hangsTogether(edges [][]string, order []string) bool {
	isNear := func(there []string, name string) bool {
		return slices.ContainsFunc(edges, func(e []string) bool {
			return slices.Contains(e, name) && slices.ContainsFunc(e, func(other string) bool { return slices.Contains(there, other) })
		})
	}
	for i, name := range order {
		if !isNear(order[:i], name) && slices.ContainsFunc(order[i:], func(left string) bool { return isNear(order[:i], left) }) {
			return false
		}
	}
	return true
}

// permutations tells all orders of names.
func permutations(names []string) [][]string {
	if len(names) == 0 {
		return [][]string{nil}
	}
	var all [][]string
	for i, name := range names {
		for _, rest := range permutations(slices.Delete(slices.Clone(names), i, i+1)) {
			all = append(all, append([]string{name}, rest...))
		}
	}
	return all
}

// TestOrderGoesOn: orders go on from what is there; each one that does is some seed's, and 0's is as the variables come.
func TestOrderGoesOn(t *testing.T) {
	for _, c := range samples() {
		edges, all := variables(c.patterns)
		met := map[string]bool{}
		for seed := range 3000 {
			got := holdsOrder(t, made(t, triples(c.patterns), wide(2, seed)), 0, all)
			if met[strings.Join(got, " ")] = true; !hangsTogether(edges, got) {
				t.Fatalf("%s by %d: %v", c.what, seed, got)
			}
		}
		if len(all) > 6 {
			continue
		}
		for _, l := range permutations(all) {
			if met[strings.Join(l, " ")] != hangsTogether(edges, l) {
				t.Errorf("%s: %v is %t", c.what, l, met[strings.Join(l, " ")])
			}
		}
	}
	if got := orders(t, made(t, triples("?c ?a ?d. ?b p ?d"), options())); got != "c a d b" {
		t.Error(got)
	}
}

// TestGreatBgp: P17.3, P17.4: as many variables and patterns as may be.
func TestGreatBgp(t *testing.T) {
	apart := func(n int) api.Plan {
		var s strings.Builder
		for i := range n {
			fmt.Fprintf(&s, "?v%d p o.", i)
		}
		return triples(s.String())
	}
	for _, p := range []api.Plan{star(63), apart(64), apart(63)} {
		for _, seed := range []int{0, 1, -1, 1 << 40, math.MinInt, math.MaxInt} {
			holdsOrder(t, made(t, p, wide(1, seed)), 0, algebra.Vars(p))
		}
	}
	p := apart(1)
	for range 2000 {
		p = filter(p, exists(named("x")))
	}
	refused(t, p, options(), api.ErrPlan)
	p = unit()
	for range 1300 {
		p = filter(p, exists(named("x")))
	}
	m := made(t, p, options())
	if m.Bgps() != 1300 {
		t.Error(m.Bgps())
	}
	for i := range m.Bgps() {
		holdsOrder(t, m, i, []string{"x"})
	}
}
