package expr

import (
	"fmt"
	"math"
	"math/rand"
	"reflect"
	"slices"
	"strings"
	"sync"
	"testing"
	"unsafe"

	"diptych/api"
	"diptych/logic"
	"diptych/value"
)

var null api.Value

func flag(b bool) api.Value         { return api.Value{Kind: api.KBool, Bool: b} }
func whole(n int64) api.Value       { return api.Value{Kind: api.KInt, Int: n} }
func exact(s string) api.Value      { return api.Value{Kind: api.KDec, Text: s} }
func text(s string) api.Value       { return api.Value{Kind: api.KText, Text: s} }
func list(l ...api.Value) api.Value { return api.Value{Kind: api.KList, List: l} }
func node(id int64) api.Value       { return api.Value{Kind: api.KNode, Int: id} }
func edge(id int64) api.Value       { return api.Value{Kind: api.KEdge, Int: id} }
func named(s string) api.Value      { return api.Value{Kind: api.KIri, Text: s} }
func blank(s string) api.Value      { return api.Value{Kind: api.KBlank, Text: s} }
func tagged(s, x string) api.Value  { return api.Value{Kind: api.KLit, Text: s, Extra: x} }

func lit(v api.Value) api.Expr      { return api.Expr{Op: api.ELit, V: v} }
func variable(name string) api.Expr { return api.Expr{Op: api.EVar, Text: name} }
func prop(e api.Expr, key string) api.Expr {
	return api.Expr{Op: api.EProp, Text: key, Args: []api.Expr{e}}
}
func op(op int, args ...api.Expr) api.Expr { return api.Expr{Op: op, Args: args} }
func call(name string, args ...api.Expr) api.Expr {
	return api.Expr{Op: api.ECall, Text: name, Args: args}
}
func agg(name string, args ...api.Expr) api.Expr {
	return api.Expr{Op: api.EAgg, Text: name, Args: args}
}
func isNull(e api.Expr) api.Expr       { return op(api.EIsNull, e) }
func isThere(e api.Expr) api.Expr      { return flagged(isNull(e)) }
func exists(p int) api.Expr            { return api.Expr{Op: api.EExists, Plan: []api.Plan{{Op: p}}} }
func flagged(e api.Expr) api.Expr      { e.Flag = true; return e }
func choice(args ...api.Expr) api.Expr { return op(api.ECase, args...) }
func lits(vs ...api.Value) (l []api.Expr) {
	for _, v := range vs {
		l = append(l, lit(v))
	}
	return l
}
func listed(args ...api.Expr) api.Expr   { return op(api.EList, args...) }
func times(n int, e api.Expr) []api.Expr { return slices.Repeat([]api.Expr{e}, n) }
func deepIn(n int, e api.Expr, ops ...int) api.Expr {
	for i := range n {
		e = op(ops[i%len(ops)], e)
	}
	return e
}

// Expressions that err: by ErrZero, ErrType and ErrOverflow, in both languages.
var (
	byZero   = op(api.EDiv, lit(whole(1)), lit(whole(0)))
	byType   = op(api.EAdd, lit(flag(true)), lit(whole(1)))
	overflow = op(api.EMul, lit(whole(math.MaxInt64)), lit(whole(2)))
	longest  = strings.Repeat("x", api.MaxText)
	tooLong  = longest + "x"
)

var langs = []int{api.LangC, api.LangS}

// world is an environment that writes down what it is asked.
type world struct {
	vars   map[string]api.Value
	props  map[string]api.Value // by the text of the node or edge, and the key
	exists map[int]api.Errno    // by the plan's Op: whether there is a row (OK: there is one; none: there is none), or its error
	asked  []string
}

func (w *world) Var(name string) api.Value {
	w.asked = append(w.asked, name)
	return w.vars[name]
}

func (w *world) Prop(v api.Value, key string) api.Value {
	w.asked = append(w.asked, value.Text(v)+"."+key)
	return w.props[value.Text(v)+"."+key]
}

func (w *world) Exists(p api.Plan) (bool, api.Errno) {
	w.asked = append(w.asked, fmt.Sprint("plan ", p.Op))
	err, there := w.exists[p.Op]
	return there, err
}

const (
	fullPlan  = api.PUnit
	emptyPlan = api.PValues
	zeroPlan  = api.PBgp
	freePlan  = api.PMatch // errs by ErrUnbound
)

func aWorld() *world {
	return &world{
		vars: map[string]api.Value{
			"one": whole(1), "t": flag(true), "f": flag(false), "s": text("abc"), "l": list(whole(1), null, text("a")), "n": node(3), "r": edge(4), "i": named("a:b"),
			"bad": {Kind: api.KInt, Text: "1"}, "odd": {Kind: 99}, "long": text(tooLong),
		},
		props: map[string]api.Value{
			"(3).k": text("v"), "[4].k": whole(7), "(3).l": list(whole(1)), "(3).bad": {Kind: api.KDec, Text: "1"}, "(3).\x00labels": list(text("A"), text("B")), "[4].\x00type": text("T"),
			"(5).\x00labels": {Kind: -1}, "[5].\x00type": {Kind: api.KText, Int: 1}, "(3).\x00type": text("no"), "[4].\x00labels": text("no"),
		},
		exists: map[int]api.Errno{fullPlan: api.OK, zeroPlan: api.ErrZero, freePlan: api.ErrUnbound},
	}
}

// short tells the beginning of v as it is shown.
func short(v any) string {
	s := fmt.Sprintf("%+.60v", v)
	return s[:min(len(s), 700)]
}

// gives holds what Eval tells against a value.
func gives(t *testing.T, lang int, e api.Expr, want api.Value) {
	t.Helper()
	got, err := Eval(lang, e, aWorld())
	if err != api.OK || !value.Same(got, want) {
		t.Errorf("Eval(%d, %s): %s, %d; want %s", lang, short(e), short(got), err, short(want))
	}
}

// errs holds what Eval tells against an error; beside it stands no value.
func errs(t *testing.T, lang int, e api.Expr, want api.Errno) {
	t.Helper()
	got, err := Eval(lang, e, aWorld())
	if err != want || !reflect.DeepEqual(got, api.Value{}) {
		t.Errorf("Eval(%d, %s): %s, %d; want error %d", lang, short(e), short(got), err, want)
	}
}

func checks(t *testing.T, lang int, e api.Expr, want bool) {
	t.Helper()
	if got := Check(lang, e); got != want {
		t.Errorf("Check(%d, %s): %v", lang, short(e), got)
	}
	if _, err := Eval(lang, e, aWorld()); !want && err != api.ErrArg {
		t.Errorf("Eval(%d, %s) of what may not be: error %d", lang, short(e), err)
	}
}

// sortOf tells an expression of the Op with these arguments and what it must have beside them.
func sortOf(o int, args []api.Expr) api.Expr {
	e := op(o, args...)
	switch o {
	case api.ELit:
		e.V = whole(1)
	case api.EVar, api.EProp:
		e.Text = "x"
	case api.ECall:
		e.Text = "abs"
	case api.EAgg:
		e.Text = "sum"
	case api.EExists:
		e.Plan = []api.Plan{{Op: api.PUnit}}
	}
	return e
}

// takes tells whether the Op may have so many arguments in the language, by the chapter's table.
func takes(lang, o, args int) bool {
	paths := lang == api.LangC
	switch o {
	case api.ELit, api.EVar, api.EExists:
		return args == 0
	case api.EProp:
		return paths && args == 1
	case api.EList:
		return paths
	case api.ENot, api.ENeg, api.EIsNull, api.ECall, api.EAgg:
		return args == 1
	case api.EAnd, api.EOr, api.EEq, api.ENe, api.ELt, api.ELe, api.EGt, api.EGe, api.EAdd, api.ESub, api.EMul, api.EDiv, api.EStarts, api.EEnds, api.EContains:
		return args == 2
	case api.EXor, api.EMod, api.EIn:
		return paths && args == 2
	case api.ECase:
		return args == 3 || args == 5 || args == 7
	}
	return false
}

// TestCheckArgs: P8.1: every Op, and numbers that are none, with 0 to 7 arguments.
func TestCheckArgs(t *testing.T) {
	for _, lang := range langs {
		for o := -2; o <= api.EExists+2; o++ {
			for n := range 8 {
				checks(t, lang, sortOf(o, times(n, lit(whole(1)))), takes(lang, o, n))
			}
		}
	}
}

// TestCheckFields: P8.1: what a kind does not name is zero; an empty list is none.
func TestCheckFields(t *testing.T) {
	fields := map[string]func(e *api.Expr){
		"Text": func(e *api.Expr) { e.Text = "abs" }, "Flag": func(e *api.Expr) { e.Flag = true }, "Plan": func(e *api.Expr) { e.Plan = []api.Plan{{Op: api.PUnit}} },
		"V": func(e *api.Expr) { e.V = whole(0) }, "V's Bool": func(e *api.Expr) { e.V.Bool = true }, "V's Int": func(e *api.Expr) { e.V.Int = 2 }, "V's Text": func(e *api.Expr) { e.V.Text = "a" }, "V's Extra": func(e *api.Expr) { e.V.Extra = "a" }, "V's List": func(e *api.Expr) { e.V.List = []api.Value{{}} },
		"Match": func(e *api.Expr) { e.Match = []api.Clause{{}} }, "Group": func(e *api.Expr) { e.Group = []api.Group{{}} },
	}
	has := map[int][]string{api.EVar: {"Text"}, api.EProp: {"Text"}, api.EIsNull: {"Flag"}, api.ECall: {"Text"}, api.EExists: {"Flag", "Plan"}}
	for _, lang := range langs {
		for o := api.ELit; o <= api.EExists; o++ {
			n := slices.IndexFunc([]int{0, 1, 2, 3}, func(n int) bool { return takes(lang, o, n) })
			if n < 0 || o == api.EAgg {
				continue
			}
			e := sortOf(o, times(n, lit(whole(1))))
			for field, set := range fields {
				if o == api.ELit && field[0] == 'V' {
					continue
				}
				more := e
				set(&more)
				checks(t, lang, more, slices.Contains(has[o], field))
			}
			e.V.List, e.Plan, e.Match, e.Group = []api.Value{}, e.Plan[:len(e.Plan):len(e.Plan)], []api.Clause{}, []api.Group{}
			if e.Plan == nil {
				e.Plan, e.Args = []api.Plan{}, append([]api.Expr{}, e.Args...)
			}
			checks(t, lang, e, true)
		}
	}
	for field, set := range fields {
		e := agg("count", variable("x"))
		set(&e)
		if got := Check(api.LangC, e); got != (field == "Flag") {
			t.Errorf("Check of count with %s: %v", field, got)
		}
	}
}

// TestCheckTexts: P8.1: names, keys, values.
func TestCheckTexts(t *testing.T) {
	for _, lang := range langs {
		for name, want := range map[string]bool{
			"": false, "x": true, "_": true, "_9": true, "aZ09_": true, "9": false, "a b": false, "a-b": false, "é": false, "a\x00": false, "?x": false,
			strings.Repeat("n", 64): true, strings.Repeat("n", 65): false,
		} {
			checks(t, lang, variable(name), want)
		}
		for _, v := range []api.Value{null, flag(false), flag(true), whole(0), exact("1.5"), text(""), text(longest), list(), list(null, list(whole(1))), node(0), edge(9), named("a"), blank("b"), tagged("", "en")} {
			checks(t, lang, lit(v), true)
		}
		for _, v := range []api.Value{{Kind: 11}, {Kind: -1}, {Int: 1}, exact("1"), text(tooLong), node(-1), named("a b"), blank("1"), tagged("a", ""), list(exact("1"))} {
			checks(t, lang, lit(v), false)
		}
	}
	for key, want := range map[string]bool{"": false, "k": true, " ": true, "\x00labels": true, longest: true, tooLong: false} {
		checks(t, api.LangC, prop(variable("n"), key), want)
		checks(t, api.LangS, prop(variable("n"), key), false)
	}
}

// TestCheckCalls: P8.1: each function in each language with each number of arguments.
func TestCheckCalls(t *testing.T) {
	many := api.MaxParts - 1
	least := map[int]map[string]int{
		api.LangC: {"size": 1, "head": 1, "last": 1, "coalesce": 1, "abs": 1, "text": 1, "labels": 1, "type": 1, "id": 1},
		api.LangS: {"coalesce": 1, "abs": 1, "text": 1, "if": 3, "isiri": 1, "isblank": 1, "isliteral": 1, "length": 1},
	}
	for _, name := range []string{"size", "head", "last", "coalesce", "abs", "text", "labels", "type", "id", "if", "isiri", "isblank", "isliteral", "length", "", "Size", "ABS", "abs ", "count", "sum", "not"} {
		for _, lang := range langs {
			for n := range 6 {
				want, there := least[lang][name]
				checks(t, lang, call(name, times(n, lit(whole(1)))...), there && (n == want || n > want && name == "coalesce"))
			}
		}
	}
	checks(t, api.LangC, call("coalesce", times(many, lit(null))...), true)
	checks(t, api.LangS, call("coalesce", times(many, variable("x"))...), true)
	checks(t, api.LangC, call("coalesce", times(many+1, lit(null))...), false)
}

// TestCheckAggregates: P8.1: which language has which, what they take, and none within another. None is ever evaluated.
func TestCheckAggregates(t *testing.T) {
	x, none := variable("x"), []api.Expr{}
	both, c, s := []int{api.LangC, api.LangS}, []int{api.LangC}, []int{api.LangS}
	for _, a := range []struct {
		e   api.Expr
		may []int
	}{
		{agg("count"), both}, {agg("count", none...), both}, {agg("count", x), both}, {agg("count", x, x), nil},
		{agg("sum", x), both}, {agg("min", x), both}, {agg("max", x), both}, {agg("avg", x), both}, {agg("collect", x), c}, {agg("sample", x), s}, {agg("concat", x), s},
		{agg("sum"), nil}, {agg("min"), nil}, {agg("max"), nil}, {agg("avg"), nil}, {agg("collect"), nil}, {agg("sample"), nil}, {agg("concat"), nil},
		{agg("sum", x, x), nil}, {agg("collect", x, x), nil}, {agg("sample", x, x), nil}, {agg("", x), nil}, {agg("Count", x), nil}, {agg("abs", x), nil},
		{agg("sum", agg("count")), nil}, {agg("sum", op(api.ENeg, agg("sum", x))), nil}, {agg("count", isNull(op(api.EEq, x, agg("count")))), nil},
		{op(api.EAdd, agg("sum", x), agg("count")), both}, {isNull(agg("max", x)), both}, {agg("count", exists(api.PGroup)), both},
	} {
		for _, lang := range langs {
			for _, e := range []api.Expr{a.e, flagged(a.e)} {
				if e.Op != api.EAgg && e.Op != api.EIsNull {
					e.Flag = false
				}
				want := slices.Contains(a.may, lang)
				checks(t, lang, e, want)
				errs(t, lang, e, api.ErrArg)
				checks(t, lang, call("coalesce", e), want)
			}
		}
	}
}

// TestCheckPlans: P8.1: an EExists has one plan, which is not looked into.
func TestCheckPlans(t *testing.T) {
	with := func(l ...api.Plan) api.Expr { return api.Expr{Op: api.EExists, Plan: l} }
	aggregates := api.Plan{Op: api.PGroup, Lang: api.LangS, E: times(5000, agg("none", agg("none")))}
	for _, lang := range langs {
		checks(t, lang, with(), false)
		checks(t, lang, with(api.Plan{}), false)
		checks(t, lang, with(api.Plan{Op: api.PNone, Var: "x"}), false)
		checks(t, lang, with(api.Plan{Op: api.PUnit}, api.Plan{Op: api.PUnit}), false)
		checks(t, lang, flagged(with(api.Plan{Op: api.PUnit})), true)
		for _, p := range []api.Plan{{Op: 99}, {Op: -1}, {Op: api.PFilter}, {Op: api.PUnit, Lang: 7, Var: "%"}, aggregates} {
			checks(t, lang, with(p), true)
			checks(t, lang, agg("count", with(p)), true)
		}
	}
}

// TestCheckCaps: P8.1: how many expressions, and how deep in one another.
func TestCheckCaps(t *testing.T) {
	x := variable("x")
	for _, c := range []struct {
		e    api.Expr
		want bool
	}{
		{listed(times(api.MaxParts-1, x)...), true}, {listed(times(api.MaxParts, x)...), false}, {listed(times(1<<20, x)...), false},
		{listed(times(15, listed(times(272, x)...))...), true}, {listed(append(times(15, listed(times(272, x)...)), x)...), false},
		{listed(slices.Concat(times(15, listed(times(271, x)...)), times(15, x))...), true}, {listed(slices.Concat(times(15, listed(times(271, x)...)), times(14, x), []api.Expr{isNull(x)})...), false},
		{deepIn(api.MaxDeep-1, x, api.ENot, api.EIsNull, api.ENeg), true}, {deepIn(api.MaxDeep, x, api.ENot, api.EIsNull, api.ENeg), false}, {deepIn(5000, x, api.ENot), false},
		{deepIn(api.MaxDeep-1, listed(), api.EList), true}, {deepIn(api.MaxDeep, listed(), api.EList), false},
		{listed(x, deepIn(api.MaxDeep-2, x, api.EList)), true}, {listed(x, deepIn(api.MaxDeep-1, x, api.EList)), false},
	} {
		checks(t, api.LangC, c.e, c.want)
	}
	checks(t, api.LangS, deepIn(api.MaxDeep-1, x, api.ENot), true)
	checks(t, api.LangS, deepIn(api.MaxDeep, x, api.ENot), false)
	checks(t, api.LangS, choice(times(api.MaxParts-1, x)...), true)
	checks(t, api.LangS, choice(times(api.MaxParts+1, x)...), false)
}

// TestOtherLanguages: P8.1: a lang that is neither is LangC, in every call.
func TestOtherLanguages(t *testing.T) {
	for _, lang := range []int{-1, 2, 99, math.MinInt64} {
		for _, e := range []api.Expr{listed(), op(api.EXor, lit(null), lit(null)), call("size", lit(null)), agg("collect", lit(null)), prop(lit(null), "k"), call("if", lits(null, null, null)...), agg("sample", lit(null)), op(api.EIn, lit(null), lit(null))} {
			if got, want := Check(lang, e), Check(api.LangC, e); got != want {
				t.Errorf("Check(%d, %s): %v", lang, short(e), got)
			}
		}
		gives(t, lang, variable("nothing"), null)
		gives(t, lang, op(api.EAdd, lit(null), lit(whole(1))), null)
		gives(t, lang, op(api.EDiv, lit(whole(3)), lit(whole(2))), whole(1))
		errs(t, lang, op(api.EAnd, lit(flag(false)), byZero), api.ErrZero)
		errs(t, lang, choice(byZero, lit(null), lit(null)), api.ErrZero)
		if a, err := Truth(lang, lit(null), aWorld()); a != api.Unknown || err != api.OK {
			t.Errorf("Truth(%d, null): %d, %d", lang, a, err)
		}
		if _, err := Truth(lang, byZero, aWorld()); err != api.ErrZero {
			t.Errorf("Truth(%d, 1 / 0): error %d", lang, err)
		}
		if !Safe(lang, variable("x")) {
			t.Errorf("Safe(%d, x): false", lang)
		}
	}
}

// TestVars: P8.2: each once, as they come first, in what may be and what may not; not those of plans.
func TestVars(t *testing.T) {
	x, y, z := variable("x"), variable("y"), variable("z")
	within := api.Expr{Op: api.EExists, Plan: []api.Plan{{Op: api.PFilter, E: []api.Expr{variable("p")}}}, Match: []api.Clause{{E: variable("m")}}, Group: []api.Group{{L: []api.Element{{E: variable("g")}}}}}
	strange := variable("v")
	strange.Args = []api.Expr{y, x}
	for _, c := range []struct {
		e    api.Expr
		want []string
	}{
		{api.Expr{}, nil}, {lit(text("x")), nil}, {x, []string{"x"}}, {op(api.EAdd, y, x), []string{"y", "x"}}, {op(api.EAdd, op(api.EMul, z, y), op(api.EMul, y, x)), []string{"z", "y", "x"}},
		{choice(x, y, x, z, z), []string{"x", "y", "z"}}, {op(api.EAnd, isNull(op(api.ENeg, x)), agg("sum", y)), []string{"x", "y"}}, {prop(x, "y"), []string{"x"}}, {call("abs", x), []string{"x"}}, {call("abs"), nil},
		{within, nil}, {op(api.EAnd, within, x), []string{"x"}},
		{variable(""), []string{""}}, {listed(variable("9 "), variable(longest), variable("9 ")), []string{"9 ", longest}}, {strange, []string{"v", "y", "x"}}, {op(-5, x, op(99, y)), []string{"x", "y"}},
		{deepIn(api.MaxDeep-1, x, api.ENot), []string{"x"}}, {deepIn(api.MaxDeep, x, api.ENot), nil}, {listed(deepIn(api.MaxDeep, x, api.ENot), y), []string{"y"}}, {listed(times(10000, x)...), []string{"x"}},
	} {
		if got := Vars(c.e); !slices.Equal(got, c.want) {
			t.Errorf("Vars of %s: %s; want %s", short(c.e), short(got), short(c.want))
		}
	}
	var many []api.Expr
	for i := range 6000 {
		many = append(many, variable(fmt.Sprint("v", i)))
	}
	if got := Vars(listed(append(many, many...)...)); len(got) != 6000 || got[0] != "v0" || got[5999] != "v5999" {
		t.Errorf("Vars of 12000: %s", short(got))
	}
}

// TestHasAgg: P8.2: wherever it stands, as far as MaxDeep; not in plans.
func TestHasAgg(t *testing.T) {
	x, a := variable("x"), agg("sum", variable("x"))
	for _, c := range []struct {
		e    api.Expr
		want bool
	}{
		{api.Expr{}, false}, {x, false}, {call("sum", x), false}, {a, true}, {agg("count"), true}, {agg("no such"), true}, {op(api.EAdd, x, a), true}, {op(api.EAdd, op(api.ENeg, a), x), true}, {listed(times(9000, x)...), false}, {listed(append(times(9000, x), a)...), true}, {op(-1, a), true},
		{api.Expr{Op: api.EExists, Plan: []api.Plan{{Op: api.PFilter, E: []api.Expr{a}, Aggs: []api.Agg{{E: a}}}}}, false}, {api.Expr{Op: api.EExists, Match: []api.Clause{{E: a, Where: []api.Expr{a}}}, Group: []api.Group{{L: []api.Element{{E: a}}}}}, false},
		{deepIn(api.MaxDeep-1, agg("count"), api.ENot), true}, {deepIn(api.MaxDeep, agg("count"), api.ENot), false},
	} {
		if got := HasAgg(c.e); got != c.want {
			t.Errorf("HasAgg of %s: %v", short(c.e), got)
		}
	}
}

// TestEvalArg: P8.3: what is not evaluated at all.
func TestEvalArg(t *testing.T) {
	for _, lang := range langs {
		if v, err := Eval(lang, lit(whole(1)), nil); err != api.ErrArg || !reflect.DeepEqual(v, api.Value{}) {
			t.Errorf("Eval in nil: %v, %d", v, err)
		}
		if a, err := Truth(lang, lit(flag(true)), nil); err != api.ErrArg || a != api.False {
			t.Errorf("Truth in nil: %d, %d", a, err)
		}
		for _, e := range []api.Expr{{}, op(api.ENot), variable("a b"), agg("count"), op(api.EAnd, lit(flag(false)), agg("count")), choice(lit(flag(true)), lit(whole(1)), agg("count")), op(api.EOr, lit(flag(true)), op(api.ENot))} {
			w := aWorld()
			if v, err := Eval(lang, e, w); err != api.ErrArg || !reflect.DeepEqual(v, api.Value{}) || len(w.asked) > 0 {
				t.Errorf("Eval(%d, %s): %v, %d; asked %v", lang, short(e), v, err, w.asked)
			}
			if a, err := Truth(lang, e, w); err != api.ErrArg || a != api.False {
				t.Errorf("Truth(%d, %s): %d, %d", lang, short(e), a, err)
			}
		}
	}
}

// TestLeaves: P8.3: literals and variables.
func TestLeaves(t *testing.T) {
	for _, v := range pool() {
		for _, lang := range langs {
			gives(t, lang, lit(v), v)
		}
	}
	for _, lang := range langs {
		gives(t, lang, variable("one"), whole(1))
		gives(t, lang, variable("l"), list(whole(1), null, text("a")))
		gives(t, lang, variable("i"), named("a:b"))
	}
	for _, name := range []string{"nothing", "bad", "odd", "long"} {
		gives(t, api.LangC, variable(name), null)
		errs(t, api.LangS, variable(name), api.ErrUnbound)
	}
}

// TestLists: P8.3.
func TestLists(t *testing.T) {
	gives(t, api.LangC, listed(), list())
	gives(t, api.LangC, listed(variable("one"), lit(null), listed(variable("s"))), list(whole(1), null, list(text("abc"))))
	errs(t, api.LangC, listed(lit(whole(1)), byZero, byType), api.ErrZero)
	errs(t, api.LangC, listed(byType, byZero), api.ErrType)
	gives(t, api.LangC, call("size", listed(times(api.MaxParts-2, lit(null))...)), whole(api.MaxParts-2))
	deep := list()
	for range api.MaxDeep - 2 {
		deep = list(deep)
	}
	gives(t, api.LangC, listed(lit(null), lit(deep)), list(null, deep))
	errs(t, api.LangC, listed(lit(null), listed(lit(deep))), api.ErrOverflow)
	errs(t, api.LangC, call("size", listed(lit(list(deep)))), api.ErrOverflow)
	gives(t, api.LangC, deepIn(api.MaxDeep-1, listed(), api.EList), list(deep))
	full := list(slices.Repeat([]api.Value{null}, api.MaxParts)...)
	gives(t, api.LangC, listed(lit(full)), list(full))
	errs(t, api.LangC, op(api.EAdd, lit(full), listed(lit(null))), api.ErrOverflow)
}

// TestProps: P8.3.
func TestProps(t *testing.T) {
	for key, want := range map[string]api.Value{"k": text("v"), "l": list(whole(1)), "none": null, "bad": null, "\x00labels": list(text("A"), text("B"))} {
		gives(t, api.LangC, prop(variable("n"), key), want)
	}
	gives(t, api.LangC, prop(variable("r"), "k"), whole(7))
	gives(t, api.LangC, prop(lit(null), "k"), null)
	gives(t, api.LangC, prop(prop(variable("n"), "none"), "k"), null)
	for _, v := range []api.Value{flag(true), whole(3), exact("1.5"), text("v"), list(), list(node(3)), named("a"), blank("b"), tagged("a", "en")} {
		errs(t, api.LangC, prop(lit(v), "k"), api.ErrType)
	}
	errs(t, api.LangC, prop(byZero, "k"), api.ErrZero)
}

// pool has values of all kinds.
func pool() []api.Value {
	return []api.Value{
		null, flag(false), flag(true), whole(math.MinInt64), whole(-3), whole(0), whole(2), whole(math.MaxInt64), exact("-1.5"), exact("0.0"), exact("2.0"), exact(strings.Repeat("9", 40) + ".5"),
		text(""), text("a"), text("ab"), text("b"), list(), list(null), list(whole(2)), list(exact("2.0"), null), list(text("a"), list(whole(2))), node(0), node(2), edge(2), named("a"), named("ab"), blank("a"), tagged("a", "en"), tagged("a", "de"),
	}
}

// saidBy tells what a comparison's truth value becomes.
func saidBy(lang, truth int) (api.Value, api.Errno) {
	switch {
	case truth == api.True:
		return flag(true), api.OK
	case truth == api.False:
		return flag(false), api.OK
	case lang == api.LangS:
		return null, api.ErrType
	}
	return null, api.OK
}

// wanted tells, by the chapter's words, what an Op of two values is: comparisons, sums, texts.
func wanted(lang, o int, a, b api.Value) (api.Value, api.Errno) {
	unbound := a.Kind == api.KNull || b.Kind == api.KNull
	texts := a.Kind == api.KText && b.Kind == api.KText
	switch o {
	case api.EAdd, api.ESub, api.EMul, api.EDiv, api.EMod:
		return value.Arith(lang, o, a, b)
	case api.EStarts, api.EEnds, api.EContains:
		tell := map[int]func(s, part string) bool{api.EStarts: strings.HasPrefix, api.EEnds: strings.HasSuffix, api.EContains: strings.Contains}[o]
		switch {
		case texts:
			return flag(tell(a.Text, b.Text)), api.OK
		case lang == api.LangC:
			return null, api.OK
		case unbound:
			return null, api.ErrUnbound
		}
		return null, api.ErrType
	case api.EIn:
		if b.Kind == api.KNull {
			return null, api.OK
		}
		if b.Kind != api.KList {
			return null, api.ErrType
		}
		in := api.False
		for _, v := range b.List {
			in = logic.Or(in, value.Equal(lang, a, v))
		}
		return saidBy(lang, in)
	}
	if lang == api.LangS && unbound {
		return null, api.ErrUnbound
	}
	equal, less, more := value.Equal(lang, a, b), value.Less(lang, a, b), value.Less(lang, b, a)
	return saidBy(lang, map[int]int{api.EEq: equal, api.ENe: logic.Not(equal), api.ELt: less, api.EGt: more, api.ELe: logic.Or(less, equal), api.EGe: logic.Or(more, equal)}[o])
}

// TestPairs: P8.3: each Op of two values, of values of all kinds.
func TestPairs(t *testing.T) {
	for _, lang := range langs {
		for _, o := range []int{api.EEq, api.ENe, api.ELt, api.ELe, api.EGt, api.EGe, api.EIn, api.EAdd, api.ESub, api.EMul, api.EDiv, api.EMod, api.EStarts, api.EEnds, api.EContains} {
			if !takes(lang, o, 2) {
				continue
			}
			for _, a := range pool() {
				for _, b := range pool() {
					got, err := Eval(lang, op(o, lit(a), lit(b)), aWorld())
					want, wantErr := wanted(lang, o, a, b)
					if err != wantErr || !value.Same(got, want) {
						t.Errorf("Eval(%d) of %s %d %s: %s, %d; want %s, %d", lang, short(a), o, short(b), short(got), err, short(want), wantErr)
					}
				}
			}
		}
	}
}

// TestComparisons: P8.3: some of them, told by hand.
func TestComparisons(t *testing.T) {
	two, more := lit(whole(2)), lit(exact("2.5"))
	for _, lang := range langs {
		for o, want := range map[int][3]bool{api.EEq: {false, true, false}, api.ENe: {true, false, true}, api.ELt: {true, false, false}, api.ELe: {true, true, false}, api.EGt: {false, false, true}, api.EGe: {false, true, true}} {
			gives(t, lang, op(o, two, more), flag(want[0]))
			gives(t, lang, op(o, two, lit(exact("2.0"))), flag(want[1]))
			gives(t, lang, op(o, more, two), flag(want[2]))
			gives(t, lang, op(o, lit(text("a")), lit(text("ab"))), flag(want[0]))
			errs(t, lang, op(o, byZero, byType), api.ErrZero)
			errs(t, lang, op(o, lit(null), byType), api.ErrType)
		}
		gives(t, lang, op(api.EEq, lit(named("a")), lit(text("a"))), flag(false))
		gives(t, lang, op(api.ENe, lit(named("a")), lit(named("a"))), flag(false))
	}
	gives(t, api.LangC, op(api.ELe, lit(list()), lit(list())), flag(true))
	gives(t, api.LangC, op(api.EGe, lit(node(1)), lit(node(1))), flag(true))
	gives(t, api.LangC, op(api.ELe, lit(text("a")), lit(whole(1))), null)
	gives(t, api.LangC, op(api.ENe, lit(null), lit(null)), null)
	gives(t, api.LangS, op(api.ELe, lit(named("a")), lit(named("a"))), flag(true))
	errs(t, api.LangS, op(api.ELt, lit(named("a")), lit(named("b"))), api.ErrType)
	errs(t, api.LangS, op(api.EEq, lit(tagged("a", "en")), lit(text("a"))), api.ErrType)
	errs(t, api.LangS, op(api.EEq, lit(list()), lit(null)), api.ErrUnbound)
	errs(t, api.LangS, op(api.EEq, variable("x"), lit(whole(1))), api.ErrUnbound)
}

// TestIn: P8.3: C alone.
func TestIn(t *testing.T) {
	in := func(x api.Value, l ...api.Value) api.Expr { return op(api.EIn, lit(x), lit(list(l...))) }
	gives(t, api.LangC, in(whole(3), whole(1), null), null)
	gives(t, api.LangC, in(whole(1), whole(1), null), flag(true))
	gives(t, api.LangC, in(whole(1), null, exact("1.0")), flag(true))
	gives(t, api.LangC, in(whole(3), whole(1), text("3")), flag(false))
	gives(t, api.LangC, in(whole(3)), flag(false))
	gives(t, api.LangC, in(null), flag(false))
	gives(t, api.LangC, in(null, whole(1)), null)
	gives(t, api.LangC, in(list(null), list(whole(1)), whole(1)), null)
	gives(t, api.LangC, op(api.EIn, lit(whole(1)), lit(null)), null)
	gives(t, api.LangC, op(api.EIn, lit(text("a")), variable("l")), flag(true))
	errs(t, api.LangC, op(api.EIn, lit(null), lit(text("a"))), api.ErrType)
	errs(t, api.LangC, op(api.EIn, byZero, lit(text("a"))), api.ErrZero)
	errs(t, api.LangC, op(api.EIn, lit(whole(1)), listed(lit(whole(1)), byZero)), api.ErrZero)
}

// TestNeg: P8.3: 0 less what it is of.
func TestNeg(t *testing.T) {
	for _, lang := range langs {
		for _, v := range pool() {
			want, wantErr := value.Arith(lang, api.ESub, whole(0), v)
			if got, err := Eval(lang, op(api.ENeg, lit(v)), aWorld()); err != wantErr || !value.Same(got, want) {
				t.Errorf("Eval(%d) of -%s: %s, %d", lang, short(v), short(got), err)
			}
		}
		gives(t, lang, op(api.ENeg, lit(whole(3))), whole(-3))
		gives(t, lang, op(api.ENeg, lit(exact("-1.5"))), exact("1.5"))
		errs(t, lang, op(api.ENeg, lit(whole(math.MinInt64))), api.ErrOverflow)
		errs(t, lang, op(api.ENeg, byZero), api.ErrZero)
	}
	gives(t, api.LangC, op(api.ENeg, lit(null)), null)
	errs(t, api.LangS, op(api.ENeg, lit(null)), api.ErrUnbound)
}

// TestJunctionsOfPaths: P8.3: in C all are evaluated, then their truths are asked; Unknown is none.
func TestJunctionsOfPaths(t *testing.T) {
	shown := map[int]api.Expr{api.False: lit(flag(false)), api.True: variable("t"), api.Unknown: lit(null)}
	back := map[int]api.Value{api.False: flag(false), api.True: flag(true), api.Unknown: null}
	for a, x := range shown {
		gives(t, api.LangC, op(api.ENot, x), back[logic.Not(a)])
		for b, y := range shown {
			gives(t, api.LangC, op(api.EAnd, x, y), back[logic.And(a, b)])
			gives(t, api.LangC, op(api.EOr, x, y), back[logic.Or(a, b)])
			gives(t, api.LangC, op(api.EXor, x, y), back[logic.Xor(a, b)])
		}
		for _, o := range []int{api.EAnd, api.EOr, api.EXor} {
			errs(t, api.LangC, op(o, x, byZero), api.ErrZero)
			errs(t, api.LangC, op(o, byZero, x), api.ErrZero)
			errs(t, api.LangC, op(o, x, lit(whole(1))), api.ErrType)
			errs(t, api.LangC, op(o, lit(text("a")), x), api.ErrType)
		}
	}
	for _, o := range []int{api.EAnd, api.EOr, api.EXor} {
		errs(t, api.LangC, op(o, byZero, overflow), api.ErrZero)
		errs(t, api.LangC, op(o, overflow, byZero), api.ErrOverflow)
		errs(t, api.LangC, op(o, lit(whole(1)), byZero), api.ErrZero)
	}
	errs(t, api.LangC, op(api.ENot, byZero), api.ErrZero)
	errs(t, api.LangC, op(api.ENot, lit(whole(0))), api.ErrType)
}

// TestJunctionsOfTriples: P8.3: in S what errs is Unknown, and what comes out Unknown is the first error.
func TestJunctionsOfTriples(t *testing.T) {
	type arg struct {
		e     api.Expr
		truth int
		err   api.Errno
	}
	args := []arg{
		{lit(flag(false)), api.False, 0}, {lit(text("")), api.False, 0}, {lit(exact("0.0")), api.False, 0}, {variable("t"), api.True, 0}, {lit(text("a")), api.True, 0}, {lit(whole(-1)), api.True, 0},
		{byZero, api.Unknown, api.ErrZero}, {overflow, api.Unknown, api.ErrOverflow}, {variable("x"), api.Unknown, api.ErrUnbound}, {lit(null), api.Unknown, api.ErrUnbound}, {lit(named("a")), api.Unknown, api.ErrType}, {exists(zeroPlan), api.Unknown, api.ErrZero},
	}
	hold := func(e api.Expr, truth int, first api.Errno) {
		t.Helper()
		if truth == api.Unknown {
			errs(t, api.LangS, e, first)
		} else {
			gives(t, api.LangS, e, flag(truth == api.True))
		}
	}
	for _, a := range args {
		hold(op(api.ENot, a.e), logic.Not(a.truth), a.err)
		for _, b := range args {
			first := a.err
			if first == api.OK {
				first = b.err
			}
			hold(op(api.EAnd, a.e, b.e), logic.And(a.truth, b.truth), first)
			hold(op(api.EOr, a.e, b.e), logic.Or(a.truth, b.truth), first)
		}
	}
}

// TestTexts: P8.3: what begins with, ends with, has another.
func TestTexts(t *testing.T) {
	for _, lang := range langs {
		for _, c := range []struct {
			s, part              string
			starts, ends, within bool
		}{{"abc", "a", true, false, true}, {"abc", "c", false, true, true}, {"abc", "b", false, false, true}, {"abc", "", true, true, true}, {"", "", true, true, true}, {"", "a", false, false, false}, {"a", "abc", false, false, false}, {"abc", "abc", true, true, true}, {"aé", "\xa9", false, true, true}} {
			s, part := lit(text(c.s)), lit(text(c.part))
			gives(t, lang, op(api.EStarts, s, part), flag(c.starts))
			gives(t, lang, op(api.EEnds, s, part), flag(c.ends))
			gives(t, lang, op(api.EContains, s, part), flag(c.within))
		}
	}
	for _, o := range []int{api.EStarts, api.EEnds, api.EContains} {
		for _, v := range []api.Value{null, whole(1), named("a"), tagged("a", "en"), list()} {
			gives(t, api.LangC, op(o, lit(v), lit(text("a"))), null)
			gives(t, api.LangC, op(o, lit(text("a")), lit(v)), null)
			gives(t, api.LangC, op(o, lit(v), lit(whole(2))), null)
			want := api.ErrType
			if v.Kind == api.KNull {
				want = api.ErrUnbound
			}
			errs(t, api.LangS, op(o, lit(v), lit(text("a"))), want)
			errs(t, api.LangS, op(o, lit(whole(2)), lit(v)), want)
		}
		errs(t, api.LangC, op(o, lit(null), byZero), api.ErrZero)
		errs(t, api.LangS, op(o, lit(null), byZero), api.ErrZero)
	}
}

// TestIsNull: P8.3: Flag: the other way round; in S what errs by ErrUnbound counts as none.
func TestIsNull(t *testing.T) {
	for _, lang := range langs {
		for _, v := range pool() {
			gives(t, lang, isNull(lit(v)), flag(v.Kind == api.KNull))
			gives(t, lang, isThere(lit(v)), flag(v.Kind != api.KNull))
		}
		gives(t, lang, isNull(variable("x")), flag(true))
		gives(t, lang, isThere(variable("bad")), flag(false))
		for e, want := range map[*api.Expr]api.Errno{&byZero: api.ErrZero, &byType: api.ErrType, &overflow: api.ErrOverflow} {
			errs(t, lang, isNull(*e), want)
			errs(t, lang, isThere(*e), want)
		}
	}
	late := op(api.EAdd, variable("x"), lit(whole(1)))
	for _, lang := range langs {
		gives(t, lang, isNull(late), flag(true))
		gives(t, lang, isThere(late), flag(false))
	}
	gives(t, api.LangS, isNull(exists(freePlan)), flag(true))
	gives(t, api.LangS, isThere(exists(freePlan)), flag(false))
	errs(t, api.LangC, isNull(exists(freePlan)), api.ErrUnbound)
}

// TestCase: P8.3: the first condition that is true.
func TestCase(t *testing.T) {
	yes, no, one, two, three := lit(flag(true)), lit(flag(false)), lit(whole(1)), lit(whole(2)), lit(whole(3))
	for _, lang := range langs {
		gives(t, lang, choice(yes, one, byZero), whole(1))
		gives(t, lang, choice(no, byZero, two), whole(2))
		gives(t, lang, choice(no, byZero, yes, two, byZero), whole(2))
		gives(t, lang, choice(yes, one, byZero, byZero, byZero), whole(1))
		gives(t, lang, choice(yes, one, yes, two, three), whole(1))
		gives(t, lang, choice(lit(null), one, no, two, three), whole(3))
		errs(t, lang, choice(yes, byZero, two), api.ErrZero)
		errs(t, lang, choice(no, one, overflow), api.ErrOverflow)
	}
	gives(t, api.LangC, choice(no, one, lit(null)), null)
	for e, want := range map[*api.Expr]api.Errno{&byZero: api.ErrZero, &overflow: api.ErrOverflow, &one: api.ErrType} {
		errs(t, api.LangC, choice(*e, lit(text("a")), two), want)
		errs(t, api.LangC, choice(no, three, *e, two, two), want)
	}
	gives(t, api.LangS, choice(byZero, one, variable("x"), two, three), whole(3))
	gives(t, api.LangS, choice(lit(named("a")), one, lit(text("a")), two, three), whole(2))
	gives(t, api.LangS, choice(lit(exact("0.0")), one, byType, two, yes, three, one), whole(3))
	errs(t, api.LangS, choice(byZero, one, variable("x")), api.ErrUnbound)
}

// TestCoalesceAndIf: P8.3.
func TestCoalesceAndIf(t *testing.T) {
	one, two, none := lit(whole(1)), lit(whole(2)), lit(null)
	gives(t, api.LangC, call("coalesce", none, variable("x"), one, two), whole(1))
	gives(t, api.LangC, call("coalesce", none), null)
	gives(t, api.LangC, call("coalesce", none, variable("x")), null)
	gives(t, api.LangC, call("coalesce", one, byZero), whole(1))
	errs(t, api.LangC, call("coalesce", none, byZero, one), api.ErrZero)
	errs(t, api.LangC, call("coalesce", overflow, byZero), api.ErrOverflow)
	gives(t, api.LangS, call("coalesce", variable("x"), byZero, one, overflow), whole(1))
	gives(t, api.LangS, call("coalesce", byZero, none, one), null)
	errs(t, api.LangS, call("coalesce", variable("x"), byZero), api.ErrZero)
	errs(t, api.LangS, call("coalesce", byZero, overflow, variable("x")), api.ErrUnbound)

	gives(t, api.LangS, call("if", lit(text("a")), one, byZero), whole(1))
	gives(t, api.LangS, call("if", lit(whole(0)), byZero, two), whole(2))
	gives(t, api.LangS, call("if", lit(flag(false)), one, two), whole(2))
	errs(t, api.LangS, call("if", byZero, one, two), api.ErrZero)
	errs(t, api.LangS, call("if", variable("x"), one, two), api.ErrUnbound)
	errs(t, api.LangS, call("if", none, one, two), api.ErrUnbound)
	errs(t, api.LangS, call("if", lit(named("a")), one, two), api.ErrType)
	errs(t, api.LangS, call("if", lit(flag(true)), overflow, two), api.ErrOverflow)
	errs(t, api.LangS, call("if", lit(flag(false)), one, variable("x")), api.ErrUnbound)
}

// TestCalls: P8.3: functions of one value, told by hand.
func TestCalls(t *testing.T) {
	huge := list(text(longest), text(longest))
	cases := []struct {
		lang int
		name string
		want []api.Value // each value, and what is told of it
		over []api.Value // of which ErrOverflow is told
	}{
		{api.LangC, "size", []api.Value{null, null, text(""), whole(0), text("aé"), whole(3), list(), whole(0), list(null, list(whole(1), whole(2))), whole(2), text(longest), whole(api.MaxText)}, nil},
		{api.LangS, "length", []api.Value{text(""), whole(0), text("aé"), whole(3), text(longest), whole(api.MaxText)}, nil},
		{api.LangC, "head", []api.Value{null, null, list(), null, list(null, whole(1)), null, list(list(whole(1)), whole(2)), list(whole(1)), list(text("a")), text("a")}, nil},
		{api.LangC, "last", []api.Value{null, null, list(), null, list(whole(1), null), null, list(whole(2), list(whole(1))), list(whole(1)), list(text("a")), text("a")}, nil},
		{api.LangC, "abs", []api.Value{null, null, whole(0), whole(0), whole(-3), whole(3), whole(3), whole(3), whole(math.MaxInt64), whole(math.MaxInt64), whole(-math.MaxInt64), whole(math.MaxInt64), exact("-1.5"), exact("1.5"), exact("1.5"), exact("1.5"), exact("0.0"), exact("0.0")}, []api.Value{whole(math.MinInt64)}},
		{api.LangS, "abs", []api.Value{whole(0), whole(0), whole(-3), whole(3), exact("-1.5"), exact("1.5"), exact("0.0"), exact("0.0")}, []api.Value{whole(math.MinInt64)}},
		{api.LangC, "text", []api.Value{null, null, flag(true), text("true"), whole(-3), text("-3"), exact("1.5"), text("1.5"), text(""), text(""), text("a"), text("a"), named("a"), text("<a>"), blank("b"), text("_:b"), tagged("a", "en"), text("a")}, nil},
		{api.LangS, "text", []api.Value{flag(false), text("false"), whole(-3), text("-3"), exact("1.5"), text("1.5"), text("a"), text("a"), named("a"), text("a"), blank("b"), text("_:b"), tagged("a", "en"), text("a"), list(whole(1), null), text("[1, null]"), node(3), text("(3)"), edge(4), text("[4]"), huge, text("[" + longest + ", " + longest + "]")}, nil},
		{api.LangC, "labels", []api.Value{null, null, node(3), list(text("A"), text("B")), node(5), null, node(9), null}, nil},
		{api.LangC, "type", []api.Value{null, null, edge(4), text("T"), edge(5), null, edge(9), null}, nil},
		{api.LangC, "id", []api.Value{null, null, node(0), whole(0), node(3), whole(3), edge(math.MaxInt64), whole(math.MaxInt64)}, nil},
	}
	for _, c := range cases {
		for i := 0; i < len(c.want); i += 2 {
			gives(t, c.lang, call(c.name, lit(c.want[i])), c.want[i+1])
		}
		for _, v := range c.over {
			errs(t, c.lang, call(c.name, lit(v)), api.ErrOverflow)
		}
		errs(t, c.lang, call(c.name, byZero), api.ErrZero)
		if c.lang == api.LangS {
			errs(t, c.lang, call(c.name, lit(null)), api.ErrUnbound)
			errs(t, c.lang, call(c.name, variable("x")), api.ErrUnbound)
		}
	}
}

// TestCallsOfOtherKinds: P8.3: ErrType.
func TestCallsOfOtherKinds(t *testing.T) {
	takes := map[string][]int{
		"size": {api.KText, api.KList}, "head": {api.KList}, "last": {api.KList}, "abs": {api.KInt, api.KDec}, "labels": {api.KNode}, "type": {api.KEdge}, "id": {api.KNode, api.KEdge}, "length": {api.KText},
		"text": {api.KBool, api.KInt, api.KDec, api.KText, api.KIri, api.KBlank, api.KLit},
	}
	for name, kinds := range takes {
		for _, v := range pool() {
			if v.Kind == api.KNull || slices.Contains(kinds, v.Kind) {
				continue
			}
			for _, lang := range langs {
				if Check(lang, call(name, lit(v))) && !(lang == api.LangS && name == "text") {
					errs(t, lang, call(name, lit(v)), api.ErrType)
				}
			}
		}
	}
}

// TestIsOf: P8.3: S alone.
func TestIsOf(t *testing.T) {
	for _, v := range pool() {
		if v.Kind == api.KNull {
			continue
		}
		gives(t, api.LangS, call("isiri", lit(v)), flag(v.Kind == api.KIri))
		gives(t, api.LangS, call("isblank", lit(v)), flag(v.Kind == api.KBlank))
		gives(t, api.LangS, call("isliteral", lit(v)), flag(v.Kind != api.KIri && v.Kind != api.KBlank))
	}
	for _, name := range []string{"isiri", "isblank", "isliteral"} {
		errs(t, api.LangS, call(name, lit(null)), api.ErrUnbound)
		errs(t, api.LangS, call(name, variable("x")), api.ErrUnbound)
		errs(t, api.LangS, call(name, byZero), api.ErrZero)
	}
}

// TestExists: P8.3: what env says of the plan as it was handed in.
func TestExists(t *testing.T) {
	for _, lang := range langs {
		gives(t, lang, exists(fullPlan), flag(true))
		gives(t, lang, flagged(exists(fullPlan)), flag(false))
		gives(t, lang, exists(emptyPlan), flag(false))
		gives(t, lang, flagged(exists(emptyPlan)), flag(true))
		errs(t, lang, exists(zeroPlan), api.ErrZero)
		errs(t, lang, flagged(exists(zeroPlan)), api.ErrZero)
		p := api.Plan{Op: 77, Lang: 5, Var: "v", E: []api.Expr{variable("x")}, In: []api.Plan{{Op: api.PUnit}}}
		var seen api.Plan
		if _, err := Eval(lang, api.Expr{Op: api.EExists, Plan: []api.Plan{p}}, planEnv(func(p api.Plan) { seen = p })); err != api.OK || !reflect.DeepEqual(seen, p) {
			t.Errorf("Exists was asked of %v, error %d", seen, err)
		}
	}
}

// planEnv tells an error beside true: the error holds.
type planEnv func(p api.Plan)

func (f planEnv) Var(string) api.Value             { return null }
func (f planEnv) Prop(api.Value, string) api.Value { return null }
func (f planEnv) Exists(p api.Plan) (bool, api.Errno) {
	f(p)
	if p.Op == zeroPlan {
		return true, api.ErrBudget
	}
	return true, api.OK
}

// TestErrorBesideTrue: P8.3: of EExists, its error.
func TestErrorBesideTrue(t *testing.T) {
	for _, lang := range langs {
		v, err := Eval(lang, exists(zeroPlan), planEnv(func(api.Plan) {}))
		if err != api.ErrBudget || !reflect.DeepEqual(v, api.Value{}) {
			t.Errorf("Eval(%d): %v, %d", lang, v, err)
		}
	}
}

// TestAsked: P8.3: arguments are evaluated from the left, all of them, behind errors, too; what is not asked for is not.
func TestAsked(t *testing.T) {
	x, y, z, one, yes, no := variable("x"), variable("y"), variable("z"), variable("one"), variable("t"), variable("f")
	for _, c := range []struct {
		langs []int
		e     api.Expr
		want  string
	}{
		{langs, op(api.EAdd, y, op(api.EMul, x, y)), "y x y"}, {langs, op(api.EAnd, no, x), "f x"}, {langs, op(api.EOr, yes, x), "t x"}, {langs, op(api.EEq, byZero, x), "x"}, {langs, op(api.EAnd, byZero, x), "x"},
		{langs, op(api.EOr, op(api.EDiv, x, lit(whole(0))), y), "x y"}, {langs, op(api.EContains, y, x), "y x"},
		{langs, choice(yes, x, y), "t x"}, {langs, choice(no, x, y), "f y"}, {langs, choice(no, x, yes, y, z), "f t y"}, {langs, call("coalesce", x, one, y), "x one"}, {langs, isNull(x), "x"}, {langs, call("abs", x), "x"},
		{langs, op(api.EAnd, exists(fullPlan), exists(zeroPlan)), "plan 1,plan 3"},
		{[]int{api.LangC}, listed(x, byZero, y), "x y"}, {[]int{api.LangC}, op(api.EIn, x, listed(y, z)), "x y z"}, {[]int{api.LangC}, op(api.EXor, byZero, x), "x"}, {[]int{api.LangC}, prop(variable("n"), "k"), "n,(3).k"}, {[]int{api.LangC}, call("labels", variable("n")), "n,(3).\x00labels"}, {[]int{api.LangC}, call("type", variable("r")), "r,[4].\x00type"},
		{[]int{api.LangC}, choice(byZero, x, y), ""}, {[]int{api.LangC}, call("coalesce", x, byZero, y), "x"}, {[]int{api.LangC}, call("id", variable("n")), "n"}, {[]int{api.LangC}, call("labels", variable("r")), "r"},
		{[]int{api.LangS}, choice(byZero, x, y), "y"}, {[]int{api.LangS}, call("coalesce", x, byZero, y), "x y"}, {[]int{api.LangS}, call("if", yes, x, y), "t x"}, {[]int{api.LangS}, call("if", no, x, y), "f y"}, {[]int{api.LangS}, call("if", byZero, x, y), ""},
	} {
		want := strings.FieldsFunc(c.want, func(r rune) bool { return r == ',' || r == ' ' && !strings.Contains(c.want, ",") })
		for _, lang := range c.langs {
			w := aWorld()
			Eval(lang, c.e, w)
			if !slices.Equal(w.asked, want) {
				t.Errorf("Eval(%d, %s) asked %q; want %q", lang, short(c.e), w.asked, want)
			}
		}
	}
}

// TestTruth: P8.4.
func TestTruth(t *testing.T) {
	for _, v := range pool() {
		wantC, errC := logic.Of(api.LangC, v)
		if got, err := Truth(api.LangC, lit(v), aWorld()); got != wantC || err != errC {
			t.Errorf("Truth in C of %s: %d, %d", short(v), got, err)
		}
		wantS, errS := logic.Of(api.LangS, v)
		if errS != api.OK || wantS != api.True {
			wantS = api.False
		}
		if got, err := Truth(api.LangS, lit(v), aWorld()); got != wantS || err != api.OK {
			t.Errorf("Truth in S of %s: %d, %d", short(v), got, err)
		}
	}
	for _, c := range []struct {
		e    api.Expr
		c    int
		errC api.Errno
		s    int
		errS api.Errno
	}{
		{e: lit(flag(true)), c: api.True, s: api.True}, {e: lit(flag(false)), c: api.False, s: api.False}, {e: lit(null), c: api.Unknown, s: api.False}, {e: variable("x"), c: api.Unknown, s: api.False},
		{e: lit(text("a")), errC: api.ErrType, s: api.True}, {e: lit(named("a")), errC: api.ErrType, s: api.False}, {e: byZero, errC: api.ErrZero, s: api.False}, {e: byType, errC: api.ErrType, s: api.False}, {e: overflow, errC: api.ErrOverflow, s: api.False},
		{e: op(api.EEq, variable("x"), lit(whole(1))), c: api.Unknown, s: api.False}, {e: op(api.EOr, op(api.EEq, variable("x"), lit(whole(1))), lit(flag(true))), c: api.True, s: api.True}, {e: exists(zeroPlan), errC: api.ErrZero, s: api.False}, {e: exists(fullPlan), c: api.True, s: api.True},
		{e: agg("count"), errC: api.ErrArg, errS: api.ErrArg}, {e: api.Expr{}, errC: api.ErrArg, errS: api.ErrArg},
	} {
		if got, err := Truth(api.LangC, c.e, aWorld()); got != c.c || err != c.errC {
			t.Errorf("Truth in C of %s: %d, %d", short(c.e), got, err)
		}
		if got, err := Truth(api.LangS, c.e, aWorld()); got != c.s || err != c.errS {
			t.Errorf("Truth in S of %s: %d, %d", short(c.e), got, err)
		}
	}
}

// TestSafe: P8.5: told by hand.
func TestSafe(t *testing.T) {
	x, yes := variable("x"), lit(flag(true))
	equal := op(api.EEq, x, lit(whole(1)))
	for _, e := range []api.Expr{
		lit(null), lit(whole(1)), x, isNull(x), isThere(x), equal, op(api.ENe, x, x), op(api.ELt, x, x), op(api.ELe, x, x), op(api.EGt, x, x), op(api.EGe, x, x), op(api.EEq, equal, isNull(x)), isNull(equal),
		op(api.EAnd, equal, isNull(x)), op(api.EOr, yes, lit(null)), op(api.ENot, equal), op(api.ENot, yes), op(api.EXor, isThere(x), op(api.ELt, x, x)), op(api.ENot, op(api.EAnd, op(api.EOr, equal, yes), op(api.EXor, equal, lit(null)))), op(api.EEq, op(api.EAnd, equal, yes), x), isNull(op(api.ENot, equal)),
	} {
		if !Safe(api.LangC, e) {
			t.Errorf("Safe of %s: false", short(e))
		}
		if got := Safe(api.LangS, e); got != (e.Op == api.ELit) {
			t.Errorf("Safe in S of %s: %v", short(e), got)
		}
	}
	for _, e := range []api.Expr{
		op(api.ENot, x), op(api.EAnd, equal, x), op(api.EAnd, x, equal), op(api.EOr, equal, lit(whole(1))), op(api.EXor, lit(text("a")), equal), op(api.ENot, lit(list())), op(api.ENot, op(api.ENot, x)), isNull(op(api.ENot, x)), op(api.EEq, op(api.EAnd, yes, x), x),
		op(api.EAdd, lit(whole(1)), lit(whole(1))), op(api.ENeg, x), op(api.EEq, byZero, x), isNull(byZero), prop(x, "k"), listed(), op(api.EIn, x, x), op(api.EStarts, x, x), op(api.EEnds, x, x), op(api.EContains, x, x), call("coalesce", x), call("text", x), choice(yes, x, x), agg("count"), exists(fullPlan), op(api.EAnd, equal, exists(fullPlan)), op(api.EMod, x, x),
		{}, op(api.ENot), op(api.EEq, x), variable(""), lit(exact("1")), op(api.EEq, x, variable("a b")), deepIn(api.MaxDeep, x, api.EIsNull),
	} {
		for _, lang := range langs {
			if Safe(lang, e) {
				t.Errorf("Safe(%d) of %s: true", lang, short(e))
			}
		}
	}
	if !Safe(api.LangC, deepIn(api.MaxDeep-1, x, api.EIsNull)) {
		t.Errorf("Safe of what is as deep as may be: false")
	}
}

// anyExpr tells some expression, so deep at most; of mostly those that may be.
func anyExpr(random *rand.Rand, deep int, ops []int) api.Expr {
	names := []string{"one", "t", "f", "s", "l", "n", "r", "i", "bad", "x"}
	calls := []string{"size", "head", "last", "coalesce", "abs", "text", "labels", "type", "id", "if", "isiri", "isblank", "isliteral", "length"}
	all := pool()
	if deep == 1 || random.Intn(5) == 0 {
		switch random.Intn(3) {
		case 0:
			return variable(names[random.Intn(len(names))])
		case 1:
			return lit([]api.Value{null, flag(true), flag(false)}[random.Intn(3)])
		}
		return lit(all[random.Intn(len(all))])
	}
	o := ops[random.Intn(len(ops))]
	e := op(o)
	args := map[int]int{api.EProp: 1, api.EList: random.Intn(4), api.ENot: 1, api.ENeg: 1, api.EIsNull: 1, api.ECall: 1, api.ECase: 3 + 2*random.Intn(2), api.EExists: 0}
	n, there := args[o]
	if !there {
		n = 2
	}
	switch o {
	case api.EProp:
		e.Text = "k"
	case api.ECall:
		e.Text = calls[random.Intn(len(calls))]
		if e.Text == "if" {
			n = 3
		} else if e.Text == "coalesce" {
			n = 1 + random.Intn(3)
		}
	case api.EIsNull:
		e.Flag = random.Intn(2) == 0
	case api.EExists:
		e = exists([]int{fullPlan, emptyPlan, zeroPlan, freePlan}[random.Intn(4)])
	}
	for range n {
		e.Args = append(e.Args, anyExpr(random, deep-1, ops))
	}
	return e
}

func allOps() (l []int) {
	for o := api.EProp; o <= api.EExists; o++ {
		if o != api.EAgg {
			l = append(l, o)
		}
	}
	return l
}

// TestSafeNeverErrs: P8.5: what is Safe does not err in C, and its value may be.
func TestSafeNeverErrs(t *testing.T) {
	random := rand.New(rand.NewSource(8))
	safe := []int{api.ENot, api.EAnd, api.EOr, api.EXor, api.EEq, api.ENe, api.ELt, api.ELe, api.EGt, api.EGe, api.EIsNull}
	found := 0
	for range 20000 {
		e := anyExpr(random, 4, safe)
		if !Safe(api.LangC, e) {
			continue
		}
		found++
		if v, err := Eval(api.LangC, e, aWorld()); err != api.OK || !value.Check(v) {
			t.Errorf("Eval of %s, which is safe: %s, %d", short(e), short(v), err)
		}
	}
	if found < 1000 {
		t.Errorf("%d safe expressions are too few", found)
	}
}

// meaning is Eval by the chapter's words, written as one plain walk; what may not be and what has aggregates is left to other tests.
func meaning(lang int, e api.Expr, w *world) (api.Value, api.Errno) {
	type result struct {
		v   api.Value
		err api.Errno
	}
	at := func(i int) result { v, err := meaning(lang, e.Args[i], w); return result{v, err} }
	truthAt := func(i int) (int, api.Errno) {
		r := at(i)
		if r.err != api.OK {
			return 0, r.err
		}
		return logic.Of(lang, r.v)
	}
	tidy := func(v api.Value) api.Value {
		if !value.Check(v) {
			return null
		}
		return v
	}
	switch e.Op {
	case api.ELit:
		return e.V, 0
	case api.EVar:
		v := tidy(w.vars[e.Text])
		if v.Kind == api.KNull && lang == api.LangS {
			return null, api.ErrUnbound
		}
		return v, 0
	case api.EExists:
		there, err := w.Exists(e.Plan[0])
		if err != 0 {
			return null, err
		}
		return flag(there != e.Flag), 0
	case api.ECase:
		for i := 0; i+1 < len(e.Args); i += 2 {
			a, err := truthAt(i)
			if err != 0 && lang == api.LangC {
				return null, err
			}
			if err == 0 && a == api.True {
				r := at(i + 1)
				return r.v, r.err
			}
		}
		r := at(len(e.Args) - 1)
		return r.v, r.err
	case api.ECall:
		if e.Text == "if" {
			a, err := truthAt(0)
			if err != 0 {
				return null, err
			}
			r := at(2 - a)
			return r.v, r.err
		}
		if e.Text == "coalesce" {
			last := result{}
			for i := range e.Args {
				last = at(i)
				if lang == api.LangC && (last.err != 0 || last.v.Kind != api.KNull) || lang == api.LangS && last.err == 0 {
					break
				}
			}
			return last.v, last.err
		}
	case api.EIsNull:
		r := at(0)
		if lang == api.LangS && r.err == api.ErrUnbound {
			r = result{}
		}
		if r.err != 0 {
			return null, r.err
		}
		return flag((r.v.Kind == api.KNull) != e.Flag), 0
	}
	var args []api.Value
	var truths []int
	first, unsaid := api.OK, api.OK
	for i := range e.Args {
		r := at(i)
		args = append(args, r.v)
		if first == api.OK {
			first = r.err
		}
		a, err := logic.Of(lang, r.v)
		if r.err != 0 {
			a, err = api.Unknown, r.err
		}
		truths = append(truths, a)
		if unsaid == api.OK {
			unsaid = err
		}
	}
	junction := e.Op == api.ENot || e.Op == api.EAnd || e.Op == api.EOr || e.Op == api.EXor
	if first != api.OK && !(junction && lang == api.LangS) {
		return null, first
	}
	if junction {
		if lang == api.LangC && unsaid != api.OK {
			return null, unsaid
		}
		var a int
		switch e.Op {
		case api.ENot:
			a = logic.Not(truths[0])
		case api.EAnd:
			a = logic.And(truths[0], truths[1])
		case api.EOr:
			a = logic.Or(truths[0], truths[1])
		default:
			a = logic.Xor(truths[0], truths[1])
		}
		if a == api.Unknown {
			if lang == api.LangS {
				return null, unsaid
			}
			return null, 0
		}
		return flag(a == api.True), 0
	}
	switch e.Op {
	case api.EList:
		if v := list(args...); value.Check(v) {
			return v, 0
		}
		return null, api.ErrOverflow
	case api.ENeg:
		return value.Arith(lang, api.ESub, whole(0), args[0])
	case api.EProp:
		switch args[0].Kind {
		case api.KNull:
			return null, 0
		case api.KNode, api.KEdge:
			return tidy(w.Prop(args[0], e.Text)), 0
		}
		return null, api.ErrType
	case api.ECall:
		return meaningOfCall(lang, e.Text, args[0], w, tidy)
	}
	return wanted(lang, e.Op, args[0], args[1])
}

func meaningOfCall(lang int, name string, v api.Value, w *world, tidy func(api.Value) api.Value) (api.Value, api.Errno) {
	if v.Kind == api.KNull {
		if lang == api.LangS {
			return null, api.ErrUnbound
		}
		return null, 0
	}
	switch name {
	case "isiri":
		return flag(v.Kind == api.KIri), 0
	case "isblank":
		return flag(v.Kind == api.KBlank), 0
	case "isliteral":
		return flag(v.Kind != api.KIri && v.Kind != api.KBlank), 0
	case "text":
		switch {
		case lang == api.LangS && v.Kind == api.KIri:
			return text(v.Text), 0
		case lang == api.LangC && (v.Kind == api.KList || v.Kind == api.KNode || v.Kind == api.KEdge):
			return null, api.ErrType
		}
		return text(value.Text(v)), 0
	}
	switch {
	case (name == "size" || name == "length") && v.Kind == api.KText:
		return whole(int64(len(v.Text))), 0
	case name == "size" && v.Kind == api.KList:
		return whole(int64(len(v.List))), 0
	case (name == "head" || name == "last") && v.Kind == api.KList && len(v.List) == 0:
		return null, 0
	case name == "head" && v.Kind == api.KList:
		return v.List[0], 0
	case name == "last" && v.Kind == api.KList:
		return v.List[len(v.List)-1], 0
	case name == "abs" && v.Kind == api.KInt && v.Int == math.MinInt64:
		return null, api.ErrOverflow
	case name == "abs" && v.Kind == api.KInt:
		return whole(max(v.Int, -v.Int)), 0
	case name == "abs" && v.Kind == api.KDec:
		return exact(strings.ReplaceAll(v.Text, "-", "")), 0
	case name == "labels" && v.Kind == api.KNode:
		return tidy(w.Prop(v, "\x00labels")), 0
	case name == "type" && v.Kind == api.KEdge:
		return tidy(w.Prop(v, "\x00type")), 0
	case name == "id" && (v.Kind == api.KNode || v.Kind == api.KEdge):
		return whole(v.Int), 0
	}
	return null, api.ErrType
}

// TestAny: P8.3, P8.4: expressions of all kinds in one another, by the chapter's words; they go on meaning the same.
func TestAny(t *testing.T) {
	random := rand.New(rand.NewSource(88))
	fine := map[int]int{}
	for range 20000 {
		e := anyExpr(random, 2+random.Intn(4), allOps())
		for _, lang := range langs {
			if !Check(lang, e) {
				errs(t, lang, e, api.ErrArg)
				continue
			}
			fine[lang]++
			want, wantErr := meaning(lang, e, aWorld())
			if got, err := Eval(lang, e, aWorld()); err != wantErr || !value.Same(got, want) {
				t.Fatalf("Eval(%d, %s): %s, %d; want %s, %d", lang, short(e), short(got), err, short(want), wantErr)
			}
			truth, truthErr := 0, wantErr
			if wantErr == api.OK {
				truth, truthErr = logic.Of(lang, want)
			}
			if lang == api.LangS {
				truth, truthErr = map[bool]int{true: api.True}[truth == api.True], api.OK
			}
			if got, err := Truth(lang, e, aWorld()); got != truth || err != truthErr {
				t.Fatalf("Truth(%d, %s): %d, %d; want %d, %d", lang, short(e), got, err, truth, truthErr)
			}
		}
	}
	if fine[api.LangC] < 3000 || fine[api.LangS] < 1000 {
		t.Errorf("too few that may be: %v", fine)
	}
}

// TestExamples: P8.3: the document's.
func TestExamples(t *testing.T) {
	one := lit(whole(1))
	zeroIsOne := op(api.EEq, byZero, one)
	gives(t, api.LangC, op(api.EAdd, one, lit(null)), null)
	errs(t, api.LangC, op(api.EAdd, one, lit(text("a"))), api.ErrType)
	errs(t, api.LangC, op(api.EAnd, lit(flag(false)), zeroIsOne), api.ErrZero)
	gives(t, api.LangS, op(api.EAnd, lit(flag(false)), zeroIsOne), flag(false))
	gives(t, api.LangS, op(api.EOr, op(api.EEq, variable("x"), one), lit(flag(true))), flag(true))
	gives(t, api.LangC, op(api.EIn, lit(whole(3)), listed(one, lit(null))), null)
	gives(t, api.LangC, op(api.EIn, one, listed(one, lit(null))), flag(true))
	gives(t, api.LangC, choice(lit(flag(true)), one, byZero), whole(1))
}

// cloned tells v in memory of its own.
func cloned[T any](v T) T {
	return deepCopy(reflect.ValueOf(v)).Interface().(T)
}

func deepCopy(v reflect.Value) reflect.Value {
	c := reflect.New(v.Type()).Elem()
	switch v.Kind() {
	case reflect.Struct:
		for i := range v.NumField() {
			c.Field(i).Set(deepCopy(v.Field(i)))
		}
	case reflect.Slice:
		for i := range v.Len() {
			c.Set(reflect.Append(c, deepCopy(v.Index(i))))
		}
	case reflect.String:
		c.SetString(strings.Clone(v.String()))
	default:
		c.Set(v)
	}
	return c
}

// TestHandedInIsLeft: P8.6: what is handed in stays as it is, and so does what lies behind a list's length.
func TestHandedInIsLeft(t *testing.T) {
	random := rand.New(rand.NewSource(6))
	for range 3000 {
		e, w := anyExpr(random, 4, allOps()), aWorld()
		before, untouched := cloned(e), aWorld()
		for _, lang := range langs {
			Check(lang, e)
			Vars(e)
			HasAgg(e)
			Eval(lang, e, w)
			Truth(lang, e, w)
			Safe(lang, e)
		}
		if !reflect.DeepEqual(cloned(e), before) || !reflect.DeepEqual(w.vars, untouched.vars) || !reflect.DeepEqual(w.props, untouched.props) {
			t.Fatalf("%s is %s now", short(before), short(e))
		}
	}
	args := make([]api.Expr, 2, 4)
	args[0], args[1] = variable("l"), variable("l")
	args = append(args, agg("count"))[:2]
	cells := append(make([]api.Value, 0, 4), whole(1), api.Value{Kind: 99})[:1]
	w := aWorld()
	w.vars["l"] = api.Value{Kind: api.KList, List: cells}
	if v, err := Eval(api.LangC, op(api.EAdd, args...), w); err != api.OK || !value.Same(v, list(whole(1), whole(1))) {
		t.Errorf("Eval read behind a list's length: %v, %d", v, err)
	}
	if args[:3][2].Op != api.EAgg || cells[:2][1].Kind != 99 || len(cells[:3][2].List) > 0 || HasAgg(op(api.EAdd, args...)) {
		t.Errorf("behind a list's length: %v, %v", args[:3], cells[:4])
	}
}

// lists tells all lists in v.
func lists(v api.Value) (l [][]api.Value) {
	if cap(v.List) > 0 {
		l = append(l, v.List)
	}
	for _, part := range v.List {
		l = append(l, lists(part)...)
	}
	return l
}

// TestToldIsNew: P8.6: the lists of an answer are the caller's own: they share nothing with one another, with literals, with what env told.
func TestToldIsNew(t *testing.T) {
	inner := list(list(text("a")), text("b"))
	x, y := variable("x"), lit(cloned(inner))
	w := aWorld()
	w.vars["x"], w.props["(3).p"], w.props["(3).\x00labels"] = cloned(inner), cloned(inner), cloned(inner)
	p := prop(variable("n"), "p")
	for _, e := range []api.Expr{
		x, y, p, listed(x, x), listed(y, y), listed(p, p, x, y), op(api.EAdd, x, x), op(api.EAdd, y, listed(y)), call("head", x), call("head", y), call("last", listed(x, y)), call("coalesce", lit(null), x), choice(lit(flag(true)), y, x), call("labels", variable("n")), listed(call("head", x), x),
	} {
		before := cloned(e)
		v, err := Eval(api.LangC, e, w)
		if err != api.OK {
			t.Fatalf("Eval of %s: error %d", short(e), err)
		}
		seen := map[*api.Value]int{}
		want, all := cloned(v), lists(v)
		for _, l := range all {
			seen[unsafe.SliceData(l)]++
		}
		if len(seen) != len(all) {
			t.Errorf("two lists of Eval of %s are one", short(e))
		}
		for _, l := range all {
			for i := range l[:cap(l)] {
				l[:cap(l)][i] = whole(77)
			}
		}
		if again, err := Eval(api.LangC, e, w); err != api.OK || !value.Same(again, want) || !reflect.DeepEqual(cloned(e), before) || !value.Same(w.vars["x"], inner) || !value.Same(w.props["(3).p"], inner) {
			t.Errorf("Eval of %s, told lists written over: %s", short(e), short(again))
		}
	}
	names := Vars(op(api.EAdd, x, variable("y")))
	names[0] = "z"
	if again := Vars(op(api.EAdd, x, variable("y"))); again[0] != "x" {
		t.Errorf("Vars again: %v", again)
	}
}

// lent is a text whose bytes are the test's.
func lent(b []byte) string {
	return unsafe.String(unsafe.SliceData(b), len(b))
}

// TestTextsWrittenOver: P8.6: what is told stays when the memory of what was handed in is used again.
func TestTextsWrittenOver(t *testing.T) {
	for _, lang := range langs {
		for _, make := range []func(s string) api.Expr{
			func(s string) api.Expr { return lit(text(s)) }, func(s string) api.Expr { return lit(exact(s)) }, func(s string) api.Expr { return lit(tagged(s, s)) }, func(s string) api.Expr { return variable("v") }, func(s string) api.Expr { return call("text", lit(text(s))) }, func(s string) api.Expr { return call("text", lit(exact(s))) },
			func(s string) api.Expr { return call("abs", lit(exact(s))) }, func(s string) api.Expr { return call("coalesce", variable("v")) }, func(s string) api.Expr { return call("text", lit(tagged(s, "x"))) }, func(s string) api.Expr { return lit(list(text(s))) }, func(s string) api.Expr { return choice(lit(flag(true)), variable("v"), variable("v")) },
		} {
			b := []byte("-12.5")
			w := aWorld()
			w.vars["v"] = text(lent(b))
			v, err := Eval(lang, make(lent(b)), w)
			want := cloned(v)
			copy(b, "+++++")
			if err != api.OK || !reflect.DeepEqual(v, want) {
				t.Errorf("Eval told a text that was lent: %v, %d", v, err)
			}
		}
	}
	b := []byte("name")
	names := Vars(op(api.EAdd, variable(lent(b)), variable("x")))
	copy(b, "over")
	if !slices.Equal(names, []string{"name", "x"}) {
		t.Errorf("Vars told a text that was lent: %v", names)
	}
}

// TestEnds: P8.6: expressions in themselves, and those that are deep or wide beyond measure.
func TestEnds(t *testing.T) {
	round := make([]api.Expr, 1)
	for _, o := range []int{api.ENot, api.EList, api.EAgg, api.EIsNull, api.EVar, api.ENone} {
		round[0] = api.Expr{Op: o, Text: "x", Args: round}
		e := round[0]
		for _, lang := range langs {
			checks(t, lang, e, false)
			if Safe(lang, e) || HasAgg(e) != (o == api.EAgg) || len(Vars(e)) > 1 {
				t.Errorf("Op %d in itself: %v, %v", o, HasAgg(e), Vars(e))
			}
		}
	}
	cells := make([]api.Value, 1)
	cells[0] = api.Value{Kind: api.KList, List: cells}
	w := aWorld()
	w.vars["x"] = cells[0]
	checks(t, api.LangC, lit(cells[0]), false)
	if v, err := Eval(api.LangC, variable("x"), w); err != api.OK || !value.Same(v, null) {
		t.Errorf("a list in itself: error %d", err)
	}
	deep := deepIn(1<<16, variable("x"), api.EList)
	wide := listed(times(1<<20, variable("x"))...)
	for _, e := range []api.Expr{deep, wide, {Op: math.MaxInt64}, {Op: math.MinInt64}} {
		for _, lang := range langs {
			if Check(lang, e) || Safe(lang, e) || HasAgg(e) || len(Vars(e)) > 1 {
				t.Errorf("of %s: %v", short(e.Op), Vars(e))
			}
			errs(t, lang, e, api.ErrArg)
		}
	}
}

// TestAskedAtOnce: R6: of many goroutines each has its own answer.
func TestAskedAtOnce(t *testing.T) {
	random := rand.New(rand.NewSource(3))
	var all []api.Expr
	for range 200 {
		all = append(all, anyExpr(random, 4, allOps()))
	}
	var group sync.WaitGroup
	for range 8 {
		group.Go(func() {
			w := aWorld()
			for _, e := range all {
				for _, lang := range langs {
					got, err := Eval(lang, e, w)
					if again, errAgain := Eval(lang, e, w); errAgain != err || !value.Same(got, again) {
						t.Errorf("Eval(%d, %s): %s and %s", lang, short(e), short(got), short(again))
					}
				}
			}
		})
	}
	group.Wait()
}

// TestFace: the face is the skeleton's.
func TestFace(t *testing.T) {
	var env Env = aWorld()
	var check func(int, api.Expr) bool = Check
	var vars func(api.Expr) []string = Vars
	var hasAgg func(api.Expr) bool = HasAgg
	var eval func(int, api.Expr, Env) (api.Value, api.Errno) = Eval
	var truth func(int, api.Expr, Env) (int, api.Errno) = Truth
	var safe func(int, api.Expr) bool = Safe
	for _, part := range []any{env, check, vars, hasAgg, eval, truth, safe} {
		if part == nil {
			t.Error("a part of the face is missing")
		}
	}
}
