package plan

import (
	"fmt"
	"reflect"
	"slices"
	"strings"
	"testing"

	"diptych/algebra"
	"diptych/api"
)

func num(n int64) api.Value         { return api.Value{Kind: api.KInt, Int: n} }
func text(s string) api.Value       { return api.Value{Kind: api.KText, Text: s} }
func truth(b bool) api.Value        { return api.Value{Kind: api.KBool, Bool: b} }
func iri(s string) api.Value        { return api.Value{Kind: api.KIri, Text: s} }
func list(l ...api.Value) api.Value { return api.Value{Kind: api.KList, List: l} }

func lit(v api.Value) api.Expr             { return api.Expr{Op: api.ELit, V: v} }
func at(name string) api.Expr              { return api.Expr{Op: api.EVar, Text: name} }
func op(op int, args ...api.Expr) api.Expr { return api.Expr{Op: op, Args: args} }
func exists(p api.Plan) api.Expr           { return api.Expr{Op: api.EExists, Plan: []api.Plan{p}} }
func call(name string, args ...api.Expr) api.Expr {
	return api.Expr{Op: api.ECall, Text: name, Args: args}
}
func agg(name string, args ...api.Expr) api.Expr {
	return api.Expr{Op: api.EAgg, Text: name, Args: args}
}

var yes, no = lit(truth(true)), lit(truth(false))

// The plans below are of S, but those that inC tells.

func plan(o int, p api.Plan, in ...api.Plan) api.Plan {
	p.Op, p.Lang, p.In = o, api.LangS, in
	return p
}
func unit() api.Plan { return plan(api.PUnit, api.Plan{}) }
func values(names string, l ...[]api.Value) api.Plan {
	return plan(api.PValues, api.Plan{Vars: strings.Fields(names), Rows: l})
}
func join(a, b api.Plan) api.Plan  { return plan(api.PJoin, api.Plan{}, a, b) }
func both(a, b api.Plan) api.Plan  { return plan(api.PUnion, api.Plan{}, a, b) }
func minus(a, b api.Plan) api.Plan { return plan(api.PMinus, api.Plan{}, a, b) }
func left(a, b api.Plan, e api.Expr) api.Plan {
	return plan(api.PLeft, api.Plan{E: []api.Expr{e}}, a, b)
}
func filter(a api.Plan, e api.Expr) api.Plan { return plan(api.PFilter, api.Plan{E: []api.Expr{e}}, a) }
func extend(a api.Plan, name string, e api.Expr) api.Plan {
	return plan(api.PExtend, api.Plan{Var: name, E: []api.Expr{e}}, a)
}
func unwind(a api.Plan, name string, e api.Expr) api.Plan {
	return plan(api.PUnwind, api.Plan{Var: name, E: []api.Expr{e}}, a)
}
func distinct(a api.Plan) api.Plan { return plan(api.PDistinct, api.Plan{}, a) }
func project(a api.Plan, names string) api.Plan {
	return plan(api.PProject, api.Plan{Vars: strings.Fields(names)}, a)
}
func slice(a api.Plan, skip, limit int64) api.Plan {
	return plan(api.PSlice, api.Plan{Skip: skip, Limit: limit}, a)
}

func order(a api.Plan, l ...api.Expr) api.Plan {
	p := plan(api.POrder, api.Plan{}, a)
	for _, e := range l {
		p.Sorts = append(p.Sorts, api.Sort{E: e, Down: true})
	}
	return p
}

// groupBy tells a PGroup; its aggregates are named a1, a2, ..
func groupBy(a api.Plan, keys string, l ...api.Expr) api.Plan {
	p := plan(api.PGroup, api.Plan{Vars: strings.Fields(keys)}, a)
	for i, e := range l {
		p.Aggs = append(p.Aggs, api.Agg{Var: fmt.Sprint("a", i+1), E: e})
	}
	return p
}

// triples reads a PBgp: ?x a variable, other words IRIs; points between.
func triples(s string) api.Plan {
	p := plan(api.PBgp, api.Plan{})
	for t := range strings.SplitSeq(s, ".") {
		if w := strings.Fields(t); len(w) == 3 {
			p.Bgp = append(p.Bgp, api.Pattern{S: part(w[0]), P: part(w[1]), O: part(w[2])})
		}
	}
	return p
}

func part(s string) api.Value {
	if s[0] == '?' {
		return api.Value{Text: s[1:]}
	}
	return iri(s)
}

// named tells a PBgp that is known by its only variable.
func named(name string) api.Plan { return triples("?" + name + " p o") }

// inC tells p, which has no PBgp and no expressions, in C.
func inC(p api.Plan) api.Plan {
	p.Lang = api.LangC
	p.In = slices.Clone(p.In)
	for i := range p.In {
		p.In[i] = inC(p.In[i])
	}
	return p
}

// path tells a PMatch of a node over p, a plan of C.
func path(p api.Plan, spot string) api.Plan {
	return api.Plan{Op: api.PMatch, Spots: []api.Spot{{Var: spot, Labels: []string{"Label"}}}, In: []api.Plan{p}}
}

// options tells some that may be, by which nothing is rewritten.
func options() api.Options { return api.Options{Width: 2, Batch: 256, Budget: 1000} }

// wide tells options of a width, of which the order and the bags hang on the seed.
func wide(width, seed int) api.Options {
	o := options()
	o.Width, o.Seed = width, seed
	return o
}

// by tells options with rules.
func by(rules int) api.Options {
	o := options()
	o.Rules = rules
	return o
}

// made tells how a plan is run, both of which may be.
func made(t *testing.T, p api.Plan, o api.Options) *Physical {
	t.Helper()
	m, err := Make(p, o)
	if err != api.OK || m == nil {
		t.Fatalf("Make with %+v: %d, of%s", o, err, short(p))
	}
	return m
}

// refused holds that Make tells an error of what it is told, and nothing else.
func refused(t *testing.T, p api.Plan, o api.Options, want api.Errno) {
	t.Helper()
	if m, err := Make(p, o); m != nil || err != want {
		t.Errorf("Make with %+v: %v, %d; want %d, of%s", o, m, err, want, short(p))
	}
}

func short(p api.Plan) string {
	s := algebra.Lines(p)
	return "\n" + s[:min(len(s), 1200)]
}

// orders tells the Orders of all PBgps, with strokes between.
func orders(t *testing.T, m *Physical) string {
	t.Helper()
	var all []string
	for i := range m.Bgps() {
		names, err := m.Order(i)
		if err != api.OK {
			t.Fatalf("Order(%d): %d", i, err)
		}
		all = append(all, strings.Join(names, " "))
	}
	return strings.Join(all, "|")
}

// bagsOf tells the Bags of the only PBgp.
func bagsOf(t *testing.T, p api.Plan, o api.Options) ([]api.Bag, api.Errno) {
	t.Helper()
	m := made(t, p, o)
	if m.Bgps() != 1 {
		t.Fatalf("%d PBgps in%s", m.Bgps(), short(p))
	}
	return m.Bags(0)
}

// plain tells v with nil for lists without elements.
func plain[T any](v T) T {
	told := reflect.New(reflect.TypeOf(v)).Elem()
	told.Set(flat(reflect.ValueOf(v)))
	return told.Interface().(T)
}

func flat(v reflect.Value) reflect.Value {
	told := reflect.New(v.Type()).Elem()
	switch v.Kind() {
	case reflect.Slice:
		for i := range v.Len() {
			told.Set(reflect.Append(told, flat(v.Index(i))))
		}
	case reflect.Struct:
		for i := range v.NumField() {
			told.Field(i).Set(flat(v.Field(i)))
		}
	default:
		told.Set(v)
	}
	return told
}

func alike[T any](a, b T) bool { return reflect.DeepEqual(plain(a), plain(b)) }
