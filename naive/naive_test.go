package naive

import (
	"fmt"
	"math"
	"strconv"
	"strings"
	"testing"

	"diptych/algebra"
	"diptych/api"
	"diptych/value"
)

func num(n int64) api.Value         { return api.Value{Kind: api.KInt, Int: n} }
func dec(s string) api.Value        { return api.Value{Kind: api.KDec, Text: s} }
func truth(b bool) api.Value        { return api.Value{Kind: api.KBool, Bool: b} }
func iri(s string) api.Value        { return api.Value{Kind: api.KIri, Text: s} }
func blank(s string) api.Value      { return api.Value{Kind: api.KBlank, Text: s} }
func tagged(s, x string) api.Value  { return api.Value{Kind: api.KLit, Text: s, Extra: x} }
func node(id int64) api.Value       { return api.Value{Kind: api.KNode, Int: id} }
func edge(id int64) api.Value       { return api.Value{Kind: api.KEdge, Int: id} }
func list(l ...api.Value) api.Value { return api.Value{Kind: api.KList, List: l} }
func row(l ...api.Value) []api.Value {
	return l
}

// free is a variable of a pattern.
func free(name string) api.Value { return api.Value{Text: name} }

func lit(v api.Value) api.Expr             { return api.Expr{Op: api.ELit, V: v} }
func at(name string) api.Expr              { return api.Expr{Op: api.EVar, Text: name} }
func op(op int, args ...api.Expr) api.Expr { return api.Expr{Op: op, Args: args} }
func exists(p api.Plan) api.Expr           { return api.Expr{Op: api.EExists, Plan: []api.Plan{p}} }
func not(e api.Expr) api.Expr              { e.Flag = true; return e }
func same(a, b api.Expr) api.Expr          { return op(api.EEq, a, b) }
func prop(e api.Expr, key string) api.Expr {
	return api.Expr{Op: api.EProp, Text: key, Args: []api.Expr{e}}
}
func call(name string, args ...api.Expr) api.Expr {
	return api.Expr{Op: api.ECall, Text: name, Args: args}
}
func agg(name string, args ...api.Expr) api.Expr {
	return api.Expr{Op: api.EAgg, Text: name, Args: args}
}

var (
	none    api.Value
	yes, no = lit(truth(true)), lit(truth(false))
	fault   = op(api.EDiv, lit(num(1)), lit(num(0))) // errs in both languages
	langs   = []int{api.LangC, api.LangS}
)

// The plans below are of C, as their zero Lang says; in tells them in another language.

func plan(o int, p api.Plan, in ...api.Plan) api.Plan {
	p.Op, p.In = o, in
	return p
}
func unit() api.Plan { return plan(api.PUnit, api.Plan{}) }
func values(names string, l ...[]api.Value) api.Plan {
	return api.Plan{Op: api.PValues, Vars: strings.Fields(names), Rows: l}
}
func join(a, b api.Plan) api.Plan  { return plan(api.PJoin, api.Plan{}, a, b) }
func both(a, b api.Plan) api.Plan  { return plan(api.PUnion, api.Plan{}, a, b) }
func minus(a, b api.Plan) api.Plan { return plan(api.PMinus, api.Plan{}, a, b) }
func left(a, b api.Plan, e api.Expr) api.Plan {
	return plan(api.PLeft, api.Plan{E: []api.Expr{e}}, a, b)
}
func filter(a api.Plan, e api.Expr) api.Plan { return plan(api.PFilter, api.Plan{E: []api.Expr{e}}, a) }
func extend(a api.Plan, name string, e api.Expr) api.Plan {
	return plan(api.PExtend, api.Plan{Var: name, E: []api.Expr{e}}, a)
}
func unwind(a api.Plan, name string, e api.Expr) api.Plan {
	return plan(api.PUnwind, api.Plan{Var: name, E: []api.Expr{e}}, a)
}
func distinct(a api.Plan) api.Plan { return plan(api.PDistinct, api.Plan{}, a) }
func project(a api.Plan, names string) api.Plan {
	return plan(api.PProject, api.Plan{Vars: strings.Fields(names)}, a)
}
func slice(a api.Plan, skip, limit int64) api.Plan {
	return plan(api.PSlice, api.Plan{Skip: skip, Limit: limit}, a)
}
func up(e api.Expr) api.Sort   { return api.Sort{E: e} }
func down(e api.Expr) api.Sort { return api.Sort{E: e, Down: true} }
func order(a api.Plan, l ...api.Sort) api.Plan {
	return plan(api.POrder, api.Plan{Sorts: l}, a)
}

// groupBy tells a PGroup; its aggregates are named a1, a2, ..
func groupBy(a api.Plan, keys string, l ...api.Expr) api.Plan {
	p := plan(api.PGroup, api.Plan{Vars: strings.Fields(keys)}, a)
	for i, e := range l {
		p.Aggs = append(p.Aggs, api.Agg{Var: fmt.Sprint("a", i+1), E: e})
	}
	return p
}

// bgp reads patterns: ?x a variable, _:x a blank node, digits a number, other words IRIs; points between.
func bgp(s string) api.Plan {
	p := api.Plan{Op: api.PBgp}
	for t := range strings.SplitSeq(s, ".") {
		if w := strings.Fields(t); len(w) == 3 {
			p.Bgp = append(p.Bgp, api.Pattern{S: part(w[0]), P: part(w[1]), O: part(w[2])})
		}
	}
	return p
}

func part(s string) api.Value {
	switch {
	case s[0] == '?':
		return free(s[1:])
	case strings.HasPrefix(s, "_:"):
		return blank(s[2:])
	case s[0] >= '0' && s[0] <= '9':
		n, _ := strconv.ParseInt(s, 10, 64)
		return num(n)
	}
	return iri(s)
}

// store reads triples as bgp reads patterns.
func store(s string) api.Data {
	var d api.Data
	for _, p := range bgp(s).Bgp {
		d.T = append(d.T, api.Triple{S: p.S, P: p.P, O: p.O})
	}
	return d
}

// match reads a PMatch: spots as "a:A:B b", hops as "a-r:T:U>b", "a<r-b" or "a-r-b".
func match(in api.Plan, spots string, hops ...string) api.Plan {
	p := plan(api.PMatch, api.Plan{}, in)
	for _, s := range strings.Fields(spots) {
		w := strings.Split(s, ":")
		p.Spots = append(p.Spots, api.Spot{Var: w[0], Labels: w[1:]})
	}
	for _, s := range hops {
		ends := strings.FieldsFunc(s, func(r rune) bool { return strings.ContainsRune("<>-", r) })
		w := strings.Split(ends[1], ":")
		h := api.Hop{From: ends[0], Edge: w[0], To: ends[2], Types: w[1:]}
		switch {
		case strings.Contains(s, ">"):
			h.Dir = 1
		case strings.Contains(s, "<"):
			h.Dir = -1
		}
		p.Hops = append(p.Hops, h)
	}
	return p
}

func optional(p api.Plan, l ...api.Expr) api.Plan {
	p.Flag, p.E = true, l
	return p
}

// drawn reads a graph: nodes as "1:A:B", edges as "7=1>2:T".
func drawn(s string) api.Data {
	var g api.Graph
	for _, word := range strings.Fields(s) {
		w := strings.Split(word, ":")
		if id, ends, isEdge := strings.Cut(w[0], "="); isEdge {
			from, to, _ := strings.Cut(ends, ">")
			g.Edges = append(g.Edges, api.Edge{ID: whole(id), From: whole(from), To: whole(to), Type: w[1]})
		} else {
			g.Nodes = append(g.Nodes, api.Node{ID: whole(w[0]), Labels: w[1:]})
		}
	}
	return api.Data{G: g}
}

func whole(s string) int64 {
	n, err := strconv.ParseInt(s, 10, 64)
	if err != nil {
		panic(s)
	}
	return n
}

// in tells p in the language, with all that is within.
func in(lang int, p api.Plan) api.Plan {
	p.Lang = lang
	p.In = mapped(p.In, func(q api.Plan) api.Plan { return in(lang, q) })
	p.E = mapped(p.E, func(e api.Expr) api.Expr { return exprIn(lang, e) })
	p.Aggs = mapped(p.Aggs, func(a api.Agg) api.Agg { a.E = exprIn(lang, a.E); return a })
	p.Sorts = mapped(p.Sorts, func(s api.Sort) api.Sort { s.E = exprIn(lang, s.E); return s })
	return p
}

func exprIn(lang int, e api.Expr) api.Expr {
	e.Args = mapped(e.Args, func(arg api.Expr) api.Expr { return exprIn(lang, arg) })
	e.Plan = mapped(e.Plan, func(p api.Plan) api.Plan { return in(lang, p) })
	return e
}

// show tells a table as a text: texts in quotes, none as -, a row without cells as ().
func show(t api.Table) string {
	s := strings.Join(t.Vars, " ") + ":"
	for i, r := range t.Rows {
		if i > 0 {
			s += " |"
		}
		if len(r) == 0 {
			s += " ()"
		}
		for _, v := range r {
			s += " " + cell(v)
		}
	}
	return s
}

func cell(v api.Value) string {
	switch v.Kind {
	case api.KNull:
		return "-"
	case api.KText:
		return strconv.Quote(v.Text)
	case api.KLit:
		return strconv.Quote(v.Text) + "@" + v.Extra
	case api.KList:
		var l []string
		for _, w := range v.List {
			l = append(l, cell(w))
		}
		return "[" + strings.Join(l, " ") + "]"
	}
	return value.Text(v)
}

func short(p api.Plan) string {
	s := algebra.Lines(p)
	return "\n" + s[:min(len(s), 1200)]
}

// tells holds Eval of p, in its own language, over d.
func tells(t *testing.T, p api.Plan, d api.Data, want string) {
	t.Helper()
	got, err := Eval(p, d)
	if err != api.OK || show(got) != want {
		t.Errorf("%d, %s\nwant %s\nof %s", err, show(got), want, short(p))
	}
	if vars := algebra.Vars(p); strings.Join(vars, " ") != strings.Join(got.Vars, " ") {
		t.Errorf("Vars %q, not the plan's %q", got.Vars, vars)
	}
}

func tellsS(t *testing.T, p api.Plan, d api.Data, want string) {
	t.Helper()
	tells(t, in(api.LangS, p), d, want)
}

// tellsBoth holds Eval of p in both languages.
func tellsBoth(t *testing.T, p api.Plan, want string) {
	t.Helper()
	for _, lang := range langs {
		tells(t, in(lang, p), api.Data{}, want)
	}
}

// errs holds the error of p and that nothing is beside it.
func errs(t *testing.T, p api.Plan, d api.Data, want api.Errno) {
	t.Helper()
	got, err := Eval(p, d)
	if err != want || got.Vars != nil || got.Rows != nil {
		t.Errorf("%d, %s; want error %d of %s", err, show(got), want, short(p))
	}
}

// failsC: an expression that errs is ErrEval in C and nothing in S.
func failsC(t *testing.T, p api.Plan, inS string) {
	t.Helper()
	errs(t, in(api.LangC, p), api.Data{}, api.ErrEval)
	tellsS(t, p, api.Data{}, inS)
}

// TestErrors: P11.1: which error is told first; the data of the other language is not looked at.
func TestErrors(t *testing.T) {
	badT := api.Data{T: []api.Triple{{S: num(1), P: iri("p"), O: num(1)}}}
	badG := api.Data{G: api.Graph{Nodes: []api.Node{{ID: -1}}}}
	tooMany := api.Data{T: make([]api.Triple, api.MaxData+1)}
	for i := range tooMany.T {
		tooMany.T[i] = api.Triple{S: iri("a"), P: iri("p"), O: iri("a")}
	}
	bad := api.Data{T: badT.T, G: badG.G}
	for _, p := range []api.Plan{{}, {Op: 17}, {Op: api.PUnit, Lang: 2}, {Op: api.PUnit, Lang: -1}, filter(unit(), at("x")), join(unit(), in(api.LangS, unit())), bgp("?x p ?y"), in(api.LangS, match(unit(), "a")), filter(unit(), agg("count")), slice(unit(), -2, 0), values("x", row())} {
		errs(t, p, api.Data{}, api.ErrPlan)
		errs(t, p, bad, api.ErrPlan)
	}
	errs(t, unit(), badG, api.ErrGraph)
	errs(t, unit(), bad, api.ErrGraph)
	errs(t, filter(unit(), same(fault, yes)), badG, api.ErrGraph)
	errs(t, in(api.LangS, unit()), badT, api.ErrTriple)
	errs(t, in(api.LangS, unit()), bad, api.ErrTriple)
	errs(t, in(api.LangS, unit()), tooMany, api.ErrTriple)
	tells(t, unit(), badT, ": ()")
	tellsS(t, unit(), badG, ": ()")
}

// TestUnitAndValues: P11.1: one row without variables; rows in Canon's order, each as often as it stands there.
func TestUnitAndValues(t *testing.T) {
	for _, lang := range langs {
		got, err := Eval(in(lang, unit()), api.Data{})
		if err != api.OK || len(got.Vars) != 0 || len(got.Rows) != 1 || len(got.Rows[0]) != 0 {
			t.Errorf("PUnit: %d, %v", err, got)
		}
		got, err = Eval(in(lang, values("", row(), row())), api.Data{})
		if err != api.OK || len(got.Rows) != 2 {
			t.Errorf("PValues of two rows without cells: %d, %v", err, got)
		}
	}
	tellsBoth(t, values(""), ":")
	tellsBoth(t, values("b a", row(num(2), num(1)), row(num(1), num(3)), row(num(2), num(1)), row(num(1), num(2))), "b a: 1 2 | 1 3 | 2 1 | 2 1")
	tells(t, values("x", row(none), row(num(1)), row(dec("1.0")), row(text("a")), row(list()), row(node(3))), api.Data{}, `x: [] | (3) | "a" | 1 | 1.0 | -`)
	tellsS(t, values("x", row(none), row(num(1)), row(dec("1.0")), row(text("a")), row(iri("a")), row(blank("a"))), api.Data{}, `x: - | _:a | <a> | "a" | 1 | 1.0`)
}

// TestBgp: P11.1: each way once; variables that stand twice have one value.
func TestBgp(t *testing.T) {
	d := store("a p b. a p c. b p c. c q a. a p b. b q b. p p q. c p 3. a r _:a")
	for _, c := range []struct{ bgp, want string }{
		{"", ": ()"}, {"a p b", ": ()"}, {"a p b. c q a", ": ()"}, {"a p b. c p a", ":"}, {"?x p ?y", "x y: <a> <b> | <a> <c> | <b> <c> | <c> 3 | <p> <q>"},
		{"?x p ?y. ?y q ?z", "x y z: <a> <b> <b> | <a> <c> <a> | <b> <c> <a>"}, {"?x q ?x", "x: <b>"}, {"?x ?x ?y", "x y: <p> <q>"}, {"?x p ?y. ?y p ?x", "x y:"},
		{"?x p ?y. a p c", "x y: <a> <b> | <a> <c> | <b> <c> | <c> 3 | <p> <q>"}, {"?x p ?y. a p d", "x y:"}, {"a ?p ?o. ?s ?p 3", "p o s: <p> <b> <c> | <p> <c> <c>"}, {"?s r ?o", "s o: <a> _:a"}, {"?s ?p _:a", "s p: <a> <r>"},
		{"?s ?p 3", "s p: <c> <p>"}, {"?x p ?o. ?o p ?y. ?x p ?y", "x o y: <a> <b> <c>"}, {"?x p 3. ?y ?x ?z", "x y z:"}, {"?a ?b ?c. ?c ?b ?d", "a b c d: <a> <p> <b> <c> | <a> <p> <c> 3 | <b> <p> <c> 3 | <b> <q> <b> <b>"},
		{"?p p ?v. ?s ?p ?o", "p v s o: <p> <q> <a> <b> | <p> <q> <a> <c> | <p> <q> <b> <c> | <p> <q> <c> 3 | <p> <q> <p> <q>"},
	} {
		tellsS(t, bgp(c.bgp), d, c.want)
	}
	tellsS(t, bgp("?x p ?y"), api.Data{}, "x y:")
	d = api.Data{T: []api.Triple{{S: iri("a"), P: iri("p"), O: num(3)}, {S: iri("a"), P: iri("p"), O: dec("3.0")}, {S: iri("a"), P: iri("p"), O: tagged("3", "en")}, {S: iri("a"), P: iri("p"), O: text("3")}}}
	tellsS(t, bgp("?x p ?y"), d, `x y: <a> "3"@en | <a> "3" | <a> 3 | <a> 3.0`)
	tellsS(t, bgp("?x p 3"), d, "x: <a>")
}

// TestMatch: P11.1: the chapter's example, directions, loops, types, labels, nodes that stand alone.
func TestMatch(t *testing.T) {
	one := drawn("1 2 7=1>2:T")
	tells(t, match(unit(), "a b", "a-r-b"), one, "a b r: (1) (2) [7] | (2) (1) [7]")
	tells(t, match(unit(), "a b", "a-r>b"), one, "a b r: (1) (2) [7]")
	tells(t, match(unit(), "a b", "a<r-b"), one, "a b r: (2) (1) [7]")
	tells(t, match(unit(), "a"), one, "a: (1) | (2)")
	tells(t, match(unit(), "a b"), one, "a b: (1) (1) | (1) (2) | (2) (1) | (2) (2)")
	tells(t, match(unit(), "a", "a-r-a"), one, "a r:")
	loop := drawn("1 2 7=1>1:T 8=1>2:T 9=2>1:U 10=1>2:T")
	for _, hop := range []string{"a-r-a", "a-r>a", "a<r-a"} {
		tells(t, match(unit(), "a", hop), loop, "a r: (1) [7]")
	}
	tells(t, match(unit(), "a b", "a-r-b"), loop, "a b r: (1) (1) [7] | (1) (2) [8] | (1) (2) [9] | (1) (2) [10] | (2) (1) [8] | (2) (1) [9] | (2) (1) [10]")
	tells(t, match(unit(), "a b", "a-r:U-b"), loop, "a b r: (1) (2) [9] | (2) (1) [9]")
	tells(t, match(unit(), "a b", "a-r:U:T:T>b"), loop, "a b r: (1) (1) [7] | (1) (2) [8] | (1) (2) [10] | (2) (1) [9]")
	tells(t, match(unit(), "a b", "a-r:V>b"), loop, "a b r:")
	labels := drawn("1:A 2:A:B 3:B 4 5=1>2:T 6=2>3:T 7=3>4:T 8=1>4:T")
	tells(t, match(unit(), "a:A"), labels, "a: (1) | (2)")
	tells(t, match(unit(), "a:B:A:B"), labels, "a: (2)")
	tells(t, match(unit(), "a:C"), labels, "a:")
	tells(t, match(unit(), "a:A b:B", "a-r>b"), labels, "a b r: (1) (2) [5] | (2) (3) [6]")
	tells(t, match(unit(), "a:B b:A", "b-r>a"), labels, "a b r: (2) (1) [5] | (3) (2) [6]")
	tells(t, match(unit(), "a b:B", "a-r-b"), labels, "a b r: (1) (2) [5] | (2) (3) [6] | (3) (2) [6] | (4) (3) [7]")
	tells(t, match(unit(), "a b c:A", "a-r>b"), drawn("1:A 2:A 5=1>2:T"), "a b c r: (1) (2) (1) [5] | (1) (2) (2) [5]")
	tells(t, match(unit(), "a"), api.Data{}, "a:")
}

// TestMatchHops: P11.1: no two Hops have one edge, wherever they stand; nodes may be had twice.
func TestMatchHops(t *testing.T) {
	chain := drawn("1 2 3 5=1>2:T 6=2>3:T")
	tells(t, match(unit(), "a b c", "a-r-b", "b-s-c"), chain, "a b c r s: (1) (2) (3) [5] [6] | (3) (2) (1) [6] [5]")
	tells(t, match(unit(), "a b c", "b-s-c", "a-r-b"), chain, "a b c s r: (1) (2) (3) [6] [5] | (3) (2) (1) [5] [6]")
	tells(t, match(unit(), "a b c d", "a-r>b", "c-s>d"), chain, "a b c d r s: (1) (2) (2) (3) [5] [6] | (2) (3) (1) (2) [6] [5]")
	tells(t, match(unit(), "a b", "a-r-b", "a-s-b"), chain, "a b r s:")
	tells(t, match(unit(), "a b", "a-r>b", "a-s>b"), drawn("1 2 5=1>2:T 6=1>2:T"), "a b r s: (1) (2) [5] [6] | (1) (2) [6] [5]")
	tells(t, match(unit(), "a b", "a-r>b", "a<s-b"), drawn("1 2 5=1>2:T 6=2>1:T"), "a b r s: (1) (2) [5] [6] | (2) (1) [6] [5]")
	tells(t, match(unit(), "a b", "a-r-b", "a-s-b"), drawn("1 2 5=1>2:T 6=2>1:T"), "a b r s: (1) (2) [5] [6] | (1) (2) [6] [5] | (2) (1) [5] [6] | (2) (1) [6] [5]")
	tells(t, match(unit(), "a b c", "a-r>b", "b-s>c", "c-q>a"), drawn("1 2 3 5=1>2:T 6=2>3:T 7=3>1:T"), "a b c r s q: (1) (2) (3) [5] [6] [7] | (2) (3) (1) [6] [7] [5] | (3) (1) (2) [7] [5] [6]")
	tells(t, match(unit(), "a", "a-r>a", "a-s-a"), drawn("1 5=1>1:T 6=1>1:T"), "a r s: (1) [5] [6] | (1) [6] [5]")
	tells(t, match(unit(), "a", "a-r>a", "a-s-a"), drawn("1 5=1>1:T"), "a r s:")
	// an edge that the row has, or that another PMatch has, may be had again
	tells(t, match(values("q", row(edge(5))), "a b", "a-r>b"), chain, "q a b r: [5] (1) (2) [5] | [5] (2) (3) [6]")
	tells(t, match(match(unit(), "a b", "a-r>b"), "a b", "a-s>b"), chain, "a b r s: (1) (2) [5] [5] | (2) (3) [6] [6]")
}

// TestMatchOfRows: P11.1: Spots that the rows have; optional matches.
func TestMatchOfRows(t *testing.T) {
	d := drawn("1:A 2 3 5=1>2:T 6=3>2:T 7=2>2:T")
	rows := values("a q", row(node(1), num(1)), row(node(1), num(1)), row(node(9), num(2)), row(none, num(3)), row(num(1), num(4)), row(edge(5), num(5)), row(text("1"), num(6)), row(list(node(1)), num(7)))
	tells(t, match(rows, "a"), d, "a q: (1) 1 | (1) 1")
	tells(t, match(rows, "a:A"), d, "a q: (1) 1 | (1) 1")
	tells(t, match(rows, "a:B"), d, "a q:")
	tells(t, match(rows, "a b", "a-r>b"), d, "a q b r: (1) 1 (2) [5] | (1) 1 (2) [5]")
	tells(t, match(rows, "b a", "b<r-a"), d, "a q b r: (1) 1 (2) [5] | (1) 1 (2) [5]")
	tells(t, match(rows, "b a", "b-r>a"), d, "a q b r:")
	tells(t, match(values("a b", row(node(1), node(2)), row(node(2), node(1)), row(node(2), node(2)), row(node(1), none)), "a b", "a-r>b"), d, "a b r: (1) (2) [5] | (2) (2) [7]")
	tells(t, match(values("a b", row(node(1), node(2)), row(node(2), node(1)), row(node(2), node(2))), "a b", "a-r-b"), d, "a b r: (1) (2) [5] | (2) (1) [5] | (2) (2) [7]")
	tells(t, match(values("a"), "b"), d, "a b:")
	tells(t, optional(match(rows, "a b", "a-r>b")), d, `a q b r: [(1)] 7 - - | (1) 1 (2) [5] | (1) 1 (2) [5] | (9) 2 - - | [5] 5 - - | "1" 6 - - | 1 4 - - | - 3 - -`)
	tells(t, optional(match(values("a"), "b")), d, "a b:")
	tells(t, optional(match(unit(), "a:B")), d, "a: -")
	tells(t, optional(match(unit(), "a:A")), d, "a: (1)")
	from := values("a", row(node(1)), row(node(2)), row(node(3)))
	tells(t, optional(match(from, "a b", "a-r-b"), same(at("b"), lit(node(3)))), d, "a b r: (1) - - | (2) (3) [6] | (3) - -")
	tells(t, optional(match(from, "a b", "a-r-b"), no), d, "a b r: (1) - - | (2) - - | (3) - -")
	tells(t, optional(match(from, "a b", "a-r-b"), lit(none)), d, "a b r: (1) - - | (2) - - | (3) - -")
	tells(t, optional(match(from, "a b", "a-r>b"), same(at("r"), at("r"))), d, "a b r: (1) (2) [5] | (2) (2) [7] | (3) (2) [6]")
	errs(t, optional(match(from, "a b", "a-r-b"), lit(num(1))), d, api.ErrEval)
	errs(t, optional(match(from, "a b", "a-r-b"), op(api.EOr, yes, same(fault, yes))), d, api.ErrEval)
	tells(t, optional(match(from, "a b:B", "a-r-b"), lit(num(1))), d, "a b r: (1) - - | (2) - - | (3) - -")
}

// TestTables: P11.1: what is as rows' own.
func TestTables(t *testing.T) {
	a := values("x y", row(num(1), num(2)), row(num(1), none), row(none, num(3)), row(num(1), num(2)))
	b := values("y z", row(num(2), num(5)), row(none, num(6)), row(num(3), none))
	tells(t, join(a, b), api.Data{}, "x y z: 1 2 5 | 1 2 5 | 1 2 5 | 1 2 6 | 1 2 6 | 1 3 - | 1 - 6 | - 3 6 | - 3 -")
	tellsS(t, join(a, b), api.Data{}, "x y z: - 3 - | - 3 6 | 1 - 6 | 1 2 5 | 1 2 5 | 1 2 5 | 1 2 6 | 1 2 6 | 1 3 -")
	tells(t, both(a, b), api.Data{}, "x y z: 1 2 - | 1 2 - | 1 - - | - 2 5 | - 3 - | - 3 - | - - 6")
	tellsS(t, minus(a, b), api.Data{}, "x y: 1 -")
	tells(t, minus(a, values("z", row(num(1)))), api.Data{}, "x y: 1 2 | 1 2 | 1 - | - 3")
	tellsS(t, minus(a, values("z", row(num(1)))), api.Data{}, "x y: - 3 | 1 - | 1 2 | 1 2")
	tells(t, distinct(a), api.Data{}, "x y: 1 2 | 1 - | - 3")
	tells(t, project(a, "z y"), api.Data{}, "z y: - 2 | - 2 | - 3 | - -")
	tellsBoth(t, project(a, ""), ": () | () | () | ()")
	tellsBoth(t, distinct(project(a, "")), ": ()")
	tellsBoth(t, join(unit(), values("x", row(num(1)))), "x: 1")
	tellsBoth(t, join(values("x", row(num(1))), values("")), "x:")
	tells(t, both(unit(), values("x", row(num(1)))), api.Data{}, "x: 1 | -")
	tellsS(t, both(unit(), values("x", row(num(1)))), api.Data{}, "x: - | 1")
}

// TestLeft: P11.1: rows that join and pass the condition, which is asked of the joined row; else the row alone.
func TestLeft(t *testing.T) {
	a := values("x y", row(num(1), num(1)), row(num(2), num(2)), row(num(2), num(2)), row(num(3), none))
	b := values("y z", row(num(1), num(7)), row(num(2), num(8)), row(num(2), num(9)), row(none, num(6)))
	for _, c := range []struct {
		e        api.Expr
		inC, inS string
	}{
		{yes, "x y z: 1 1 6 | 1 1 7 | 2 2 6 | 2 2 6 | 2 2 8 | 2 2 8 | 2 2 9 | 2 2 9 | 3 1 7 | 3 2 8 | 3 2 9 | 3 - 6", "x y z: 1 1 6 | 1 1 7 | 2 2 6 | 2 2 6 | 2 2 8 | 2 2 8 | 2 2 9 | 2 2 9 | 3 - 6 | 3 1 7 | 3 2 8 | 3 2 9"},
		{no, "x y z: 1 1 - | 2 2 - | 2 2 - | 3 - -", "x y z: 1 1 - | 2 2 - | 2 2 - | 3 - -"},
		{lit(none), "x y z: 1 1 - | 2 2 - | 2 2 - | 3 - -", "x y z: 1 1 - | 2 2 - | 2 2 - | 3 - -"},
		{op(api.EGt, at("z"), lit(num(8))), "x y z: 1 1 - | 2 2 9 | 2 2 9 | 3 2 9", "x y z: 1 1 - | 2 2 9 | 2 2 9 | 3 2 9"},
		{same(at("y"), at("x")), "x y z: 1 1 6 | 1 1 7 | 2 2 6 | 2 2 6 | 2 2 8 | 2 2 8 | 2 2 9 | 2 2 9 | 3 - -", "x y z: 1 1 6 | 1 1 7 | 2 2 6 | 2 2 6 | 2 2 8 | 2 2 8 | 2 2 9 | 2 2 9 | 3 - -"},
		{op(api.EIsNull, at("y")), "x y z: 1 1 - | 2 2 - | 2 2 - | 3 - 6", "x y z: 1 1 - | 2 2 - | 2 2 - | 3 - 6"},
	} {
		tells(t, left(a, b, c.e), api.Data{}, c.inC)
		tellsS(t, left(a, b, c.e), api.Data{}, c.inS)
	}
	tellsBoth(t, left(a, values("z"), yes), "x y z: 1 1 - | 2 2 - | 2 2 - | 3 - -")
	tellsBoth(t, left(values("x"), b, fault), "x y z:")
	tellsBoth(t, left(values("x", row(num(1))), values("x", row(num(2))), fault), "x: 1")
	failsC(t, left(values("x", row(num(1))), values("x", row(num(1))), fault), "x: 1")
	tellsBoth(t, left(values("x", row(num(1))), values("x"), fault), "x: 1")
}

// TestExpressions: P11.1: filters, columns, lists made to rows, and what errs in them.
func TestExpressions(t *testing.T) {
	x := values("x", row(num(1)), row(num(2)), row(none), row(num(2)))
	tells(t, filter(x, op(api.EGt, at("x"), lit(num(1)))), api.Data{}, "x: 2 | 2")
	tellsS(t, filter(x, op(api.EGt, at("x"), lit(num(1)))), api.Data{}, "x: 2 | 2")
	tells(t, filter(x, op(api.EIsNull, at("x"))), api.Data{}, "x: -")
	tellsS(t, filter(x, op(api.EIsNull, at("nowhere"))), api.Data{}, "x: - | 1 | 2 | 2")
	tellsS(t, filter(x, same(at("nowhere"), at("nowhere"))), api.Data{}, "x:")
	tellsBoth(t, filter(x, lit(none)), "x:")
	tells(t, extend(x, "y", op(api.EAdd, at("x"), lit(num(1)))), api.Data{}, "x y: 1 2 | 2 3 | 2 3 | - -")
	tellsS(t, extend(x, "y", op(api.EAdd, at("x"), lit(num(1)))), api.Data{}, "x y: - - | 1 2 | 2 3 | 2 3")
	tells(t, extend(x, "y", call("coalesce", at("x"), lit(list(num(7))))), api.Data{}, "x y: 1 1 | 2 2 | 2 2 | - [7]")
	failsC(t, filter(x, fault), "x:")
	failsC(t, filter(x, same(fault, fault)), "x:")
	failsC(t, extend(values("x", row(num(4)), row(num(0))), "y", op(api.EDiv, lit(num(8)), at("x"))), "x y: 0 - | 4 2.0")
	failsC(t, extend(unit(), "y", fault), "y: -")
	l := values("l", row(list(num(3), none, num(3))), row(list()), row(none), row(list(list(num(1)))))
	tells(t, unwind(l, "e", at("l")), api.Data{}, "l e: [[1]] [1] | [3 - 3] 3 | [3 - 3] 3 | [3 - 3] -")
	tellsS(t, unwind(l, "e", at("l")), api.Data{}, "l e: [[1]] [1] | [3 - 3] - | [3 - 3] 3 | [3 - 3] 3")
	for _, v := range []api.Value{num(1), text("a"), truth(true), dec("1.5"), node(1), edge(1), iri("a"), blank("a"), tagged("a", "en")} {
		failsC(t, unwind(unit(), "e", lit(v)), "e:")
		failsC(t, unwind(values("l", row(list(num(1))), row(v)), "e", at("l")), "l e: [1] 1")
	}
	failsC(t, unwind(unit(), "e", fault), "e:")
}

// TestEverythingIsEvaluated: P11.1: in C an error counts, whether its value comes to anything or not.
func TestEverythingIsEvaluated(t *testing.T) {
	bad := extend(unit(), "y", fault)
	empty := values("x")
	for _, c := range []struct {
		p    api.Plan
		want string // in S
	}{
		{slice(bad, 0, 0), "y:"}, {slice(bad, 5, -1), "y:"}, {join(empty, bad), "x y:"}, {join(bad, empty), "y x:"}, {minus(empty, bad), "x:"}, {minus(bad, unit()), "y: -"}, {left(empty, bad, yes), "x y:"}, {both(bad, empty), "y x: - -"},
		{project(bad, ""), ": ()"}, {project(bad, "z"), "z: -"}, {distinct(bad), "y: -"}, {filter(bad, no), "y:"}, {groupBy(bad, ""), ": ()"}, {slice(filter(unit(), fault), 0, 0), ":"},
		{slice(order(unit(), up(fault)), 0, 0), ":"}, {distinct(order(unit(), up(yes), down(fault))), ": ()"}, {order(unit(), up(fault)), ": ()"}, {project(groupBy(unit(), "", agg("min", fault)), ""), ": ()"},
		{filter(unit(), exists(bad)), ": ()"}, {filter(unit(), not(exists(slice(bad, 0, 0)))), ": ()"}, {filter(unit(), op(api.EOr, yes, exists(bad))), ": ()"}, {project(extend(unit(), "z", exists(join(empty, bad))), ""), ": ()"},
		{project(extend(unit(), "z", exists(filter(unit(), exists(bad)))), ""), ": ()"}, {slice(groupBy(unit(), "", agg("count", exists(bad))), 0, 0), "a1:"}, {slice(unwind(unit(), "z", lit(num(1))), 0, 0), "z:"},
	} {
		failsC(t, c.p, c.want)
	}
	// what no row asks, or no expression evaluates, errs nowhere
	nothing := api.Data{}
	tells(t, extend(empty, "y", fault), nothing, "x y:")
	tells(t, filter(empty, fault), nothing, "x:")
	tells(t, order(empty, up(fault)), nothing, "x:")
	tells(t, groupBy(empty, "", agg("sum", fault)), nothing, "a1: 0")
	tells(t, filter(unit(), op(api.ECase, yes, yes, exists(bad))), nothing, ": ()")
	tells(t, filter(unit(), call("coalesce", yes, exists(bad))), nothing, ": ()")
	tells(t, filter(empty, exists(bad)), nothing, "x:")
}

// TestExists: P11.1: the row stands in the place of the PUnits, of those of the innermost place.
func TestExists(t *testing.T) {
	x := values("x y", row(num(1), num(2)), row(num(2), none), row(num(3), num(3)))
	other := values("x z", row(num(1), num(3)), row(num(3), num(1)))
	d := api.Data{}
	tells(t, filter(x, exists(unit())), d, "x y: 1 2 | 2 - | 3 3")
	tells(t, filter(x, not(exists(unit()))), d, "x y:")
	tells(t, filter(x, exists(join(unit(), other))), d, "x y: 1 2 | 3 3")
	tells(t, filter(x, not(exists(join(unit(), other)))), d, "x y: 2 -")
	tells(t, filter(x, exists(other)), d, "x y: 1 2 | 2 - | 3 3")
	tells(t, filter(x, exists(filter(unit(), same(at("x"), at("y"))))), d, "x y: 3 3")
	tells(t, filter(x, exists(filter(join(unit(), values("w", row(num(2)), row(num(3)))), op(api.EGt, at("w"), at("x"))))), d, "x y: 1 2 | 2 -")
	tells(t, filter(x, exists(minus(unit(), values("y", row(num(2)))))), d, "x y: 2 - | 3 3")
	tells(t, filter(x, exists(slice(both(unit(), unit()), 1, 1))), d, "x y: 1 2 | 2 - | 3 3")
	tells(t, filter(x, exists(slice(both(unit(), unit()), 2, 1))), d, "x y:")
	// the inner place has more than the outer one
	inner := filter(extend(unit(), "w", op(api.EAdd, at("x"), lit(num(1)))), exists(filter(join(unit(), values("v", row(num(3)))), same(at("v"), at("w")))))
	tells(t, filter(x, exists(inner)), d, "x y: 2 -")
	tells(t, extend(x, "e", exists(join(unit(), other))), d, "x y e: 1 2 true | 2 - false | 3 3 true")
	tells(t, left(x, values("w", row(num(1)), row(num(5))), exists(filter(unit(), same(at("w"), at("x"))))), d, "x y w: 1 2 1 | 2 - - | 3 3 -")
	tells(t, order(x, up(exists(filter(unit(), same(at("x"), lit(num(1)))))), down(at("x"))), d, "x y: 3 3 | 2 - | 1 2")
	tells(t, groupBy(x, "", agg("collect", exists(filter(unit(), op(api.EGt, at("x"), lit(num(1))))))), d, "a1: [false true true]")
	// in S the row's unbound cells are compatible with all
	s := values("x", row(iri("a")), row(iri("b")), row(none))
	tellsS(t, filter(s, exists(join(unit(), bgp("?x p ?y")))), store("a p b"), "x: - | <a>")
	tellsS(t, filter(s, exists(filter(bgp("?y p ?z"), same(at("x"), at("y"))))), store("a p b"), "x:")
	tellsS(t, filter(s, exists(filter(join(unit(), bgp("?y p ?z")), same(at("x"), at("y"))))), store("a p b"), "x: <a>")
	g := drawn("1 2 5=1>2:T")
	tells(t, filter(match(unit(), "a"), exists(match(unit(), "a b", "a-r>b"))), g, "a: (1)")
	tells(t, filter(match(unit(), "a"), not(exists(match(unit(), "a b", "a-r>b")))), g, "a: (2)")
	tells(t, optional(match(match(unit(), "a"), "b", "b-r-b"), exists(unit())), g, "a b r: (1) - - | (2) - -")
	tells(t, optional(match(match(unit(), "a"), "a b", "a-r-b"), exists(match(unit(), "b c", "b-s>c"))), g, "a b r: (1) - - | (2) (1) [5]")
}

// TestProperties: P11.1: those of the graph, its labels and types; in S there are none.
func TestProperties(t *testing.T) {
	d := drawn("1:B:A 2 5=1>2:T 2=1>2:U")
	d.G.Nodes[0].Props = []api.Pair{{Key: "k", V: num(7)}, {Key: "l", V: list(text("a"), num(1))}, {Key: "\x00type", V: num(8)}}
	d.G.Edges[0].Props = []api.Pair{{Key: "k", V: text("e")}, {Key: "\x00labels", V: num(9)}}
	x := func(v api.Value) api.Plan { return values("x", row(v)) }
	for _, c := range []struct {
		v    api.Value
		e    api.Expr
		want string
	}{
		{node(1), prop(at("x"), "k"), "7"}, {node(1), prop(at("x"), "l"), `["a" 1]`}, {node(1), prop(at("x"), "none"), "-"}, {node(2), prop(at("x"), "k"), "-"}, {node(9), prop(at("x"), "k"), "-"}, {edge(5), prop(at("x"), "k"), `"e"`}, {edge(1), prop(at("x"), "k"), "-"}, {none, prop(at("x"), "k"), "-"},
		{node(1), call("labels", at("x")), `["A" "B"]`}, {node(2), call("labels", at("x")), "[]"}, {node(9), call("labels", at("x")), "-"}, {none, call("labels", at("x")), "-"}, {edge(5), call("type", at("x")), `"T"`}, {edge(1), call("type", at("x")), "-"}, {none, call("type", at("x")), "-"},
		{node(1), prop(at("x"), "\x00labels"), `["A" "B"]`}, {edge(5), prop(at("x"), "\x00type"), `"T"`}, {node(1), prop(at("x"), "\x00type"), "8"}, {edge(5), prop(at("x"), "\x00labels"), "9"}, {node(2), prop(at("x"), "\x00type"), "-"}, {edge(2), prop(at("x"), "\x00labels"), "-"},
	} {
		tells(t, project(extend(x(c.v), "y", c.e), "y"), d, "y: "+c.want)
	}
	for _, e := range []api.Expr{prop(at("x"), "k"), call("labels", at("x")), call("type", at("x"))} {
		errs(t, extend(x(num(1)), "y", e), d, api.ErrEval)
	}
	errs(t, extend(x(edge(5)), "y", call("labels", at("x"))), d, api.ErrEval)
	many := drawn("1")
	for i := range api.MaxParts + 1 {
		many.G.Nodes[0].Labels = append(many.G.Nodes[0].Labels, fmt.Sprintf("l%05d", i))
	}
	tells(t, groupBy(extend(x(node(1)), "y", call("labels", at("x"))), "", agg("count", at("y"))), many, "a1: 0")
	many.G.Nodes[0].Labels = many.G.Nodes[0].Labels[1:]
	tells(t, project(extend(x(node(1)), "y", call("size", call("labels", at("x")))), "y"), many, "y: 4096")
	var e scene
	e.work = &work{lang: api.LangS}
	if got := e.Prop(node(1), labelsKey); !value.Same(got, none) {
		t.Errorf("a property in S: %v", got)
	}
}

// TestGroup: P11.1: groups by the same cells; of no variables one group, of no rows, too.
func TestGroup(t *testing.T) {
	x := values("x y", row(num(1), num(5)), row(dec("1.0"), num(6)), row(num(1), none), row(none, num(7)), row(none, none), row(text("1"), num(8)))
	d := api.Data{}
	tells(t, groupBy(x, "x", agg("count"), agg("count", at("y")), agg("sum", at("y"))), d, `x a1 a2 a3: "1" 1 1 8 | 1 2 1 5 | 1.0 1 1 6 | - 2 1 7`)
	tellsS(t, groupBy(x, "x", agg("count"), agg("count", at("y")), agg("sum", at("y"))), d, `x a1 a2 a3: - 2 1 - | "1" 1 1 8 | 1 2 1 - | 1.0 1 1 6`)
	tells(t, groupBy(x, "", agg("count"), agg("count", at("x")), agg("max", at("y"))), d, "a1 a2 a3: 6 4 8")
	tells(t, groupBy(x, "y x"), d, `y x: 5 1 | 6 1.0 | 7 - | 8 "1" | - 1 | - -`)
	tellsBoth(t, groupBy(x, ""), ": ()")
	tellsBoth(t, groupBy(values("x"), ""), ": ()")
	tellsBoth(t, groupBy(values("x"), "x", agg("count")), "x a1:")
	tells(t, groupBy(values("x"), "", agg("count"), agg("sum", at("x")), agg("min", at("x")), agg("avg", at("x")), agg("collect", at("x"))), d, "a1 a2 a3 a4 a5: 0 0 - - []")
	tellsS(t, groupBy(values("x"), "", agg("count"), agg("sum", at("x")), agg("min", at("x")), agg("avg", at("x")), agg("sample", at("x")), agg("concat", at("x"))), d, `a1 a2 a3 a4 a5 a6: 0 0 - 0 - ""`)
	tellsBoth(t, groupBy(values("x", row(list(num(1), none)), row(list(num(1))), row(list(num(1), none))), "x", agg("count")), "x a1: [1] 1 | [1 -] 2")
	// an aggregate may have the name of a variable that is no key
	p := groupBy(x, "x", agg("count"))
	p.Aggs[0].Var = "y"
	tells(t, p, d, `x y: "1" 1 | 1 2 | 1.0 1 | - 2`)
	// texts whose encodings would run into one another, were they not told apart by their lengths
	tellsBoth(t, groupBy(values("x y", row(text("a"), text("bc")), row(text("ab"), text("c")), row(text("a"), text("bc"))), "x y", agg("count")), `x y a1: "a" "bc" 2 | "ab" "c" 1`)
}

// TestGroupErrors: P11.1, P11.2: arguments and aggregates that err.
func TestGroupErrors(t *testing.T) {
	x := values("x", row(num(4)), row(num(0)), row(text("a")))
	div := op(api.EDiv, lit(num(8)), at("x"))
	for _, name := range []string{"count", "sum", "avg", "min", "max", "collect"} {
		errs(t, groupBy(x, "", agg(name, div)), api.Data{}, api.ErrEval)
	}
	for name, want := range map[string]string{"count": "1", "sample": "2.0", "sum": "-", "avg": "-", "min": "-", "max": "-", "concat": "-"} {
		tellsS(t, groupBy(x, "", agg(name, div)), api.Data{}, "a1: "+want)
	}
	for _, name := range []string{"sum", "avg"} {
		failsC(t, groupBy(x, "", agg(name, at("x")), agg("count")), "a1 a2: - 3")
	}
	// one group's error leaves the others
	tellsS(t, groupBy(values("k x", row(num(1), num(4)), row(num(2), num(0)), row(num(1), num(2))), "k", agg("sum", op(api.EDiv, lit(num(8)), at("x")))), api.Data{}, "k a1: 1 6.0 | 2 -")
	tells(t, groupBy(values("k x", row(num(1), num(4)), row(num(1), none)), "k", agg("min", at("x")), agg("collect", at("x")), agg("avg", at("x"))), api.Data{}, "k a1 a2 a3: 1 4 [4] 4.0")
	// in S none stays, where it is no error
	null := api.Expr{Op: api.ELit}
	tellsS(t, groupBy(values("x", row(num(1)), row(num(2))), "", agg("count", null), agg("min", null), agg("sum", null), agg("sample", null)), api.Data{}, "a1 a2 a3 a4: 2 - - -")
	tells(t, groupBy(values("x", row(num(1)), row(num(2))), "", agg("count", null), agg("min", null), agg("sum", null)), api.Data{}, "a1 a2 a3: 0 - 0")
	failsC(t, groupBy(values("x", row(num(math.MaxInt64)), row(num(1))), "", agg("sum", at("x"))), "a1: -")
}

// TestOrder: P11.1: by the first key, then by the next, equal ones by Compare; at the top, or right below a PSlice.
func TestOrder(t *testing.T) {
	x := values("x y", row(num(1), num(5)), row(num(2), num(4)), row(none, num(3)), row(num(1), num(6)), row(num(2), num(4)))
	d := api.Data{}
	tells(t, order(x, down(at("x"))), d, "x y: - 3 | 2 4 | 2 4 | 1 5 | 1 6")
	tellsS(t, order(x, down(at("x"))), d, "x y: 2 4 | 2 4 | 1 5 | 1 6 | - 3")
	tells(t, order(x, up(at("x")), down(at("y"))), d, "x y: 1 6 | 1 5 | 2 4 | 2 4 | - 3")
	tellsS(t, order(x, up(at("x")), down(at("y"))), d, "x y: - 3 | 1 6 | 1 5 | 2 4 | 2 4")
	tellsBoth(t, order(x, down(at("y")), up(at("x"))), "x y: 1 6 | 1 5 | 2 4 | 2 4 | - 3")
	tells(t, order(x, up(yes)), d, "x y: 1 5 | 1 6 | 2 4 | 2 4 | - 3")
	mixed := values("x", row(text("b")), row(num(3)), row(dec("3.0")), row(truth(true)), row(list()), row(none), row(node(1)))
	tells(t, order(mixed, down(at("x"))), d, `x: - | 3.0 | 3 | true | "b" | (1) | []`)
	// an expression that errs counts as unbound in S
	div := op(api.EDiv, lit(num(12)), at("x"))
	failsC(t, order(values("x", row(num(3)), row(num(0)), row(num(4)), row(text("a"))), up(div)), `x: "a" | 0 | 4 | 3`)
	failsC(t, order(values("x", row(num(3)), row(num(0)), row(num(4)), row(text("a"))), down(div)), `x: 3 | 4 | "a" | 0`)
	// elsewhere it is its In
	tells(t, distinct(order(x, down(at("x")))), d, "x y: 1 5 | 1 6 | 2 4 | - 3")
	tells(t, project(order(x, down(at("y"))), "y"), d, "y: 3 | 4 | 4 | 5 | 6")
	tells(t, order(order(x, down(at("x"))), up(yes)), d, "x y: 1 5 | 1 6 | 2 4 | 2 4 | - 3")
	tells(t, order(slice(order(x, down(at("y"))), 0, 3), up(at("y"))), d, "x y: 2 4 | 1 5 | 1 6")
}

// TestSlice: P11.1: of the order below, or of Canon's.
func TestSlice(t *testing.T) {
	x := values("x", row(num(3)), row(num(1)), row(num(4)), row(num(2)), row(num(5)))
	desc := order(x, down(at("x")))
	for _, c := range []struct {
		skip, limit      int64
		ordered, canonic string
	}{
		{-1, -1, "x: 5 | 4 | 3 | 2 | 1", "x: 1 | 2 | 3 | 4 | 5"}, {0, -1, "x: 5 | 4 | 3 | 2 | 1", "x: 1 | 2 | 3 | 4 | 5"}, {0, 0, "x:", "x:"}, {-1, 2, "x: 5 | 4", "x: 1 | 2"}, {1, 2, "x: 4 | 3", "x: 2 | 3"},
		{3, 9, "x: 2 | 1", "x: 4 | 5"}, {4, -1, "x: 1", "x: 5"}, {5, -1, "x:", "x:"}, {6, 1, "x:", "x:"}, {math.MaxInt64, math.MaxInt64, "x:", "x:"}, {2, math.MaxInt64, "x: 3 | 2 | 1", "x: 3 | 4 | 5"}, {math.MaxInt64, -1, "x:", "x:"},
	} {
		tellsBoth(t, slice(desc, c.skip, c.limit), c.ordered)
		tellsBoth(t, slice(x, c.skip, c.limit), c.canonic)
	}
	// a PSlice is no POrder: what stands over it goes by Canon's
	tellsBoth(t, slice(slice(desc, 0, 3), 0, 2), "x: 3 | 4")
	tellsBoth(t, slice(distinct(desc), 0, 2), "x: 1 | 2")
	tellsBoth(t, distinct(slice(desc, 0, 3)), "x: 3 | 4 | 5")
	tellsBoth(t, project(slice(desc, 1, 2), "x"), "x: 3 | 4")
	tellsBoth(t, join(slice(desc, 0, 1), slice(x, 4, 1)), "x: 5")
	tellsBoth(t, slice(slice(slice(x, 1, -1), 1, -1), 0, 1), "x: 3")
	tellsBoth(t, filter(values("z", row(num(5)), row(num(1))), exists(filter(slice(desc, 0, 1), same(at("x"), lit(num(5)))))), "z: 1 | 5")
	tellsBoth(t, filter(unit(), exists(filter(slice(desc, 0, 1), same(at("x"), lit(num(1)))))), ":")
}
