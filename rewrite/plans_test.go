package rewrite

import (
	"fmt"
	"reflect"
	"strings"
	"testing"

	"diptych/algebra"
	"diptych/api"
	"diptych/naive"
	"diptych/rows"
	"diptych/value"
)

func num(n int64) api.Value         { return api.Value{Kind: api.KInt, Int: n} }
func dec(s string) api.Value        { return api.Value{Kind: api.KDec, Text: s} }
func text(s string) api.Value       { return api.Value{Kind: api.KText, Text: s} }
func truth(b bool) api.Value        { return api.Value{Kind: api.KBool, Bool: b} }
func iri(s string) api.Value        { return api.Value{Kind: api.KIri, Text: s} }
func blank(s string) api.Value      { return api.Value{Kind: api.KBlank, Text: s} }
func tagged(s, x string) api.Value  { return api.Value{Kind: api.KLit, Text: s, Extra: x} }
func node(id int64) api.Value       { return api.Value{Kind: api.KNode, Int: id} }
func list(l ...api.Value) api.Value { return api.Value{Kind: api.KList, List: l} }
func row(l ...api.Value) []api.Value {
	return l
}

// free is a variable of a pattern.
func free(name string) api.Value { return api.Value{Text: name} }

func lit(v api.Value) api.Expr             { return api.Expr{Op: api.ELit, V: v} }
func at(name string) api.Expr              { return api.Expr{Op: api.EVar, Text: name} }
func op(op int, args ...api.Expr) api.Expr { return api.Expr{Op: op, Args: args} }
func exists(p api.Plan) api.Expr           { return api.Expr{Op: api.EExists, Plan: []api.Plan{p}} }
func isNull(name string) api.Expr          { return op(api.EIsNull, at(name)) }
func call(name string, args ...api.Expr) api.Expr {
	return api.Expr{Op: api.ECall, Text: name, Args: args}
}
func agg(name string, args ...api.Expr) api.Expr {
	return api.Expr{Op: api.EAgg, Text: name, Args: args}
}

// deep tells a condition that lies n deep.
func deep(n int) api.Expr {
	e := yes
	for range n - 1 {
		e = op(api.ENot, e)
	}
	return e
}

var (
	none    api.Value
	yes, no = lit(truth(true)), lit(truth(false))
	fault   = op(api.EDiv, lit(num(1)), lit(num(0))) // errs in both languages
	langs   = []int{api.LangC, api.LangS}
)

// The plans below are of C, as their zero Lang says; in tells them in another language.

func plan(o int, p api.Plan, in ...api.Plan) api.Plan {
	p.Op, p.In = o, in
	return p
}
func unit() api.Plan { return plan(api.PUnit, api.Plan{}) }
func values(names string, l ...[]api.Value) api.Plan {
	return api.Plan{Op: api.PValues, Vars: strings.Fields(names), Rows: l}
}
func join(a, b api.Plan) api.Plan  { return plan(api.PJoin, api.Plan{}, a, b) }
func both(a, b api.Plan) api.Plan  { return plan(api.PUnion, api.Plan{}, a, b) }
func minus(a, b api.Plan) api.Plan { return plan(api.PMinus, api.Plan{}, a, b) }
func left(a, b api.Plan, e api.Expr) api.Plan {
	return plan(api.PLeft, api.Plan{E: []api.Expr{e}}, a, b)
}
func filter(a api.Plan, e api.Expr) api.Plan { return plan(api.PFilter, api.Plan{E: []api.Expr{e}}, a) }
func extend(a api.Plan, name string, e api.Expr) api.Plan {
	return plan(api.PExtend, api.Plan{Var: name, E: []api.Expr{e}}, a)
}
func unwind(a api.Plan, name string, e api.Expr) api.Plan {
	return plan(api.PUnwind, api.Plan{Var: name, E: []api.Expr{e}}, a)
}
func distinct(a api.Plan) api.Plan { return plan(api.PDistinct, api.Plan{}, a) }
func project(a api.Plan, names string) api.Plan {
	return plan(api.PProject, api.Plan{Vars: strings.Fields(names)}, a)
}
func slice(a api.Plan, skip, limit int64) api.Plan {
	return plan(api.PSlice, api.Plan{Skip: skip, Limit: limit}, a)
}
func order(a api.Plan, l ...api.Expr) api.Plan {
	return plan(api.POrder, api.Plan{Sorts: mapped(l, func(e api.Expr) api.Sort { return api.Sort{E: e, Down: true} })}, a)
}

// groupBy tells a PGroup; its aggregates are named a1, a2, ..
func groupBy(a api.Plan, keys string, l ...api.Expr) api.Plan {
	p := plan(api.PGroup, api.Plan{Vars: strings.Fields(keys)}, a)
	for i, e := range l {
		p.Aggs = append(p.Aggs, api.Agg{Var: fmt.Sprint("a", i+1), E: e})
	}
	return p
}

// bgp reads patterns: ?x a variable, other words IRIs; points between.
func bgp(s string) api.Plan {
	p := api.Plan{Op: api.PBgp}
	for t := range strings.SplitSeq(s, ".") {
		if w := strings.Fields(t); len(w) == 3 {
			p.Bgp = append(p.Bgp, api.Pattern{S: part(w[0]), P: part(w[1]), O: part(w[2])})
		}
	}
	return p
}

func part(s string) api.Value {
	if s[0] == '?' {
		return free(s[1:])
	}
	return iri(s)
}

// match tells a PMatch of a node and, if it is named, an edge from it to itself.
func match(in api.Plan, spot, edge string) api.Plan {
	p := plan(api.PMatch, api.Plan{Spots: []api.Spot{{Var: spot}}}, in)
	if edge != "" {
		p.Hops = []api.Hop{{From: spot, Edge: edge, To: spot}}
	}
	return p
}

// in tells p in the language, with all that is within.
func in(lang int, p api.Plan) api.Plan {
	p.Lang = lang
	p.In = mapped(p.In, func(q api.Plan) api.Plan { return in(lang, q) })
	p.E = mapped(p.E, func(e api.Expr) api.Expr { return exprIn(lang, e) })
	p.Aggs = mapped(p.Aggs, func(a api.Agg) api.Agg { a.E = exprIn(lang, a.E); return a })
	p.Sorts = mapped(p.Sorts, func(s api.Sort) api.Sort { s.E = exprIn(lang, s.E); return s })
	return p
}

func exprIn(lang int, e api.Expr) api.Expr {
	e.Args = mapped(e.Args, func(arg api.Expr) api.Expr { return exprIn(lang, arg) })
	e.Plan = mapped(e.Plan, func(p api.Plan) api.Plan { return in(lang, p) })
	return e
}

// show tells a table as a text, - for what is unbound.
func show(t api.Table) string {
	s := strings.Join(t.Vars, " ") + ":"
	for _, r := range t.Rows {
		s += " ("
		for i, v := range r {
			if i > 0 {
				s += " "
			}
			if v.Kind == api.KNull {
				s += "-"
			} else {
				s += value.Text(v)
			}
		}
		s += ")"
	}
	return s
}

func short(p api.Plan) string {
	s := algebra.Lines(p)
	return "\n" + s[:min(len(s), 1200)]
}

// plain tells p with nil for lists without elements.
func plain[T any](p T) T {
	v := reflect.New(reflect.TypeOf(p)).Elem()
	v.Set(flat(reflect.ValueOf(p)))
	return v.Interface().(T)
}

func flat(v reflect.Value) reflect.Value {
	told := reflect.New(v.Type()).Elem()
	switch v.Kind() {
	case reflect.Slice:
		for i := range v.Len() {
			told.Set(reflect.Append(told, flat(v.Index(i))))
		}
	case reflect.Struct:
		for i := range v.NumField() {
			told.Field(i).Set(flat(v.Field(i)))
		}
	default:
		told.Set(v)
	}
	return told
}

func alike(a, b api.Plan) bool { return reflect.DeepEqual(plain(a), plain(b)) }

// applied tells Apply of a plan that may be, by rules that there are.
func applied(t *testing.T, p api.Plan, rules int) api.Plan {
	t.Helper()
	got, err := Apply(p, rules)
	if err != api.OK || !algebra.Check(got) {
		t.Fatalf("%d, of%s%s", err, short(p), short(got))
	}
	return got
}

// becomes holds what the rules make of p, in C and in S.
func becomes(t *testing.T, p api.Plan, rules int, want api.Plan) {
	t.Helper()
	for _, lang := range langs {
		becomesIn(t, lang, p, rules, want)
	}
}

func becomesIn(t *testing.T, lang int, p api.Plan, rules int, want api.Plan) {
	t.Helper()
	p, want = in(lang, p), in(lang, want)
	if got := applied(t, p, rules); !alike(got, want) {
		t.Errorf("language %d, rules %d:%s\nbecomes%s\n%+v\nand not%s", lang, rules, short(p), short(got), got, short(want))
	}
	meansTheSame(t, p, want, data())
}

// stays holds that the rules leave p, in C and in S.
func stays(t *testing.T, p api.Plan, rules int) {
	t.Helper()
	becomes(t, p, rules, p)
}

// data tells some of both languages.
func data() api.Data {
	var d api.Data
	for _, s := range []string{"a p b", "b p c", "a q c", "c p a"} {
		w := mapped(strings.Fields(s), iri)
		d.T = append(d.T, api.Triple{S: w[0], P: w[1], O: w[2]})
	}
	d.T = append(d.T, api.Triple{S: iri("a"), P: iri("q"), O: num(1)})
	d.G = api.Graph{
		Nodes: []api.Node{{ID: 0, Labels: []string{"A"}}, {ID: 1, Props: []api.Pair{{Key: "k", V: num(1)}}}},
		Edges: []api.Edge{{ID: 0, From: 0, To: 1, Type: "T"}, {ID: 1, From: 1, To: 1, Type: "T"}},
	}
	return d
}

// meansTheSame holds P15.2 of what p has become, over d, and tells how p ends.
func meansTheSame(t *testing.T, p, q api.Plan, d api.Data) (api.Table, api.Errno) {
	t.Helper()
	want, wantErr := naive.Eval(p, d)
	got, err := naive.Eval(q, d)
	same := rows.Same(got, want)
	if p.Op == api.POrder || p.Op == api.PSlice {
		same = reflect.DeepEqual(plain(got), plain(want))
	}
	if err != wantErr || err == api.OK && !same {
		t.Errorf("language %d: %d, %s; want %d, %s, of%s\nnow%s", p.Lang, err, show(got), wantErr, show(want), short(p), short(q))
	}
	return want, wantErr
}
