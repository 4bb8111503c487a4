package agg

import (
	"fmt"
	"slices"
	"strconv"
	"strings"
	"testing"

	"diptych/api"
	"diptych/expr"
	"diptych/rows"
	"diptych/value"
)

func num(n int64) api.Value         { return api.Value{Kind: api.KInt, Int: n} }
func dec(s string) api.Value        { return api.Value{Kind: api.KDec, Text: s} }
func text(s string) api.Value       { return api.Value{Kind: api.KText, Text: s} }
func truth(b bool) api.Value        { return api.Value{Kind: api.KBool, Bool: b} }
func iri(s string) api.Value        { return api.Value{Kind: api.KIri, Text: s} }
func blank(s string) api.Value      { return api.Value{Kind: api.KBlank, Text: s} }
func tagged(s, x string) api.Value  { return api.Value{Kind: api.KLit, Text: s, Extra: x} }
func list(l ...api.Value) api.Value { return api.Value{Kind: api.KList, List: l} }

func lit(v api.Value) api.Expr             { return api.Expr{Op: api.ELit, V: v} }
func at(name string) api.Expr              { return api.Expr{Op: api.EVar, Text: name} }
func op(op int, args ...api.Expr) api.Expr { return api.Expr{Op: op, Args: args} }
func exists(p int) api.Expr {
	return api.Expr{Op: api.EExists, Plan: []api.Plan{{Op: p}}}
}

// over tells whether 6 / e is 1: an error where e is 0 (ErrZero), or no number (ErrType).
func over(e api.Expr) api.Expr { return op(api.EEq, op(api.EDiv, lit(num(6)), e), lit(num(1))) }

var (
	none    api.Value
	yes, no = lit(truth(true)), lit(truth(false))
	langs   = []int{api.LangC, api.LangS, -1, 7} // what is neither is LangC
)

// read reads a value: - none; T, F a bool; 'a' a text; <a> an IRI; _a a blank node; with a point a decimal; [..] a list, commas within; a digit ahead an int; else an IRI.
func read(s string) api.Value {
	inner := s[1:max(1, len(s)-1)]
	switch {
	case s == "-":
		return none
	case s == "T" || s == "F":
		return truth(s == "T")
	case s[0] == '[':
		return list(parts(inner)...)
	case s[0] == '\'':
		return text(inner)
	case s[0] == '<':
		return iri(inner)
	case s[0] == '_':
		return blank(s[1:])
	case strings.Contains(s, "."):
		return dec(s)
	}
	n, err := strconv.ParseInt(s, 10, 64)
	if err != nil {
		return iri(s)
	}
	return num(n)
}

// parts reads what stands between the commas that are in no list.
func parts(s string) (l []api.Value) {
	begin, lists := 0, 0
	for i, c := range s + "," {
		switch {
		case c == '[':
			lists++
		case c == ']':
			lists--
		case c == ',' && lists == 0 && s != "":
			l, begin = append(l, read(s[begin:i])), i+1
		}
	}
	return l
}

// table reads a table: variables, and a text of cells for each row.
func table(vars string, rows ...string) api.Table {
	t := api.Table{Vars: strings.Fields(vars)}
	for _, r := range rows {
		var cells []api.Value
		for _, s := range strings.Fields(r) {
			cells = append(cells, read(s))
		}
		t.Rows = append(t.Rows, cells)
	}
	return t
}

// show tells a table in one line; nil and empty lists are one in it.
func show(t api.Table) string {
	var b strings.Builder
	b.WriteString(strings.Join(t.Vars, " "))
	for _, r := range t.Rows {
		b.WriteString(" |")
		for _, v := range r {
			b.WriteString(fmt.Sprintf(" %d%q%q", v.Kind, value.Text(v), v.Extra))
		}
	}
	return b.String()
}

func short(s string) string { return s[:min(len(s), 400)] }

func is(t *testing.T, what string, got, want api.Table) {
	t.Helper()
	if g, w := show(got), show(want); g != w {
		t.Errorf("%s: %s; want %s", what, short(g), short(w))
	}
}

func isZero(t api.Table) bool { return t.Vars == nil && t.Rows == nil }

// someNames tells so many names, all unlike.
func someNames(n int, ahead string) []string {
	var l []string
	for i := range n {
		l = append(l, ahead+strconv.Itoa(i))
	}
	return l
}

// wide tells a table of so many variables, with one row of ones.
func wide(n int, ahead string) api.Table {
	return api.Table{Vars: someNames(n, ahead), Rows: [][]api.Value{slices.Repeat([]api.Value{num(1)}, n)}}
}

// badTables are tables that may not be.
func badTables() []api.Table {
	return []api.Table{
		{Vars: []string{"1"}}, {Vars: []string{""}}, {Vars: []string{"a b"}}, {Vars: []string{"a", "b", "a"}}, {Vars: someNames(api.MaxVars+1, "v")}, {Vars: []string{strings.Repeat("n", 65)}},
		{Vars: []string{"a"}, Rows: [][]api.Value{{}}}, {Vars: []string{"a"}, Rows: [][]api.Value{{none}, {none, none}}}, {Rows: [][]api.Value{{none}}}, {Rows: [][]api.Value{nil, {num(1)}}},
		{Vars: []string{"a"}, Rows: [][]api.Value{{num(1)}, {iri("")}}}, {Vars: []string{"a"}, Rows: [][]api.Value{{{Kind: 99}}}}, {Vars: []string{"a"}, Rows: [][]api.Value{{list(dec("1"))}}}, {Vars: []string{"a"}, Rows: [][]api.Value{{{Text: "none"}}}},
	}
}

// world is an Env: variables and properties by name; a plan has a row if its Op is in rows, and errs by the error that stands there.
type world struct {
	vars  map[string]api.Value
	props map[string]api.Value
	rows  map[int]bool
	errs  map[int]api.Errno
	asked []string
}

func (w *world) note(what string) {
	w.asked = append(w.asked, what)
}

func (w *world) Var(name string) api.Value {
	w.note(name)
	return w.vars[name]
}

func (w *world) Prop(v api.Value, key string) api.Value {
	w.note(value.Text(v) + "." + key)
	return w.props[value.Text(v)+"."+key]
}

func (w *world) Exists(p api.Plan) (bool, api.Errno) {
	w.note("plan " + strconv.Itoa(p.Op))
	return w.rows[p.Op], w.errs[p.Op]
}

func aWorld() *world {
	return &world{
		vars:  map[string]api.Value{"w": num(3), "x": text("env's"), "y": text("env's")},
		props: map[string]api.Value{"(1).k": num(3)},
		rows:  map[int]bool{api.PUnit: true},
		errs:  map[int]api.Errno{api.PMinus: api.ErrBudget, api.PUnion: api.ErrArg},
	}
}

// aggs reads aggregates: a name, the aggregate (distinct: !), and the variable that is its argument, with colons between.
func aggs(s string) []api.Agg {
	var l []api.Agg
	for _, word := range strings.Fields(s) {
		w := strings.Split(word, ":")
		e := api.Expr{Op: api.EAgg, Text: strings.TrimSuffix(w[1], "!"), Flag: strings.HasSuffix(w[1], "!")}
		if len(w) > 2 {
			e.Args = []api.Expr{at(w[2])}
		}
		l = append(l, api.Agg{Var: w[0], E: e})
	}
	return l
}

// of is an aggregate, named a, of an expression.
func of(name string, e api.Expr) []api.Agg {
	return []api.Agg{{Var: "a", E: api.Expr{Op: api.EAgg, Text: name, Args: []api.Expr{e}}}}
}

// sorts reads sorts by variables; of those that go down a minus stands ahead.
func sorts(s string) []api.Sort {
	var l []api.Sort
	for _, w := range strings.Fields(s) {
		l = append(l, api.Sort{E: at(strings.TrimPrefix(w, "-")), Down: w[0] == '-'})
	}
	return l
}

func by(l ...api.Expr) []api.Sort {
	var told []api.Sort
	for _, e := range l {
		told = append(told, api.Sort{E: e})
	}
	return told
}

// grouped holds Group of t.
func grouped(t *testing.T, what string, lang int, in api.Table, keys string, l []api.Agg, want api.Table) {
	t.Helper()
	got, err := Group(lang, in, strings.Fields(keys), l, aWorld())
	if err != api.OK {
		t.Errorf("%s in %d: %d", what, lang, err)
	}
	is(t, fmt.Sprintf("%s in %d", what, lang), got, want)
}

// TestGroup: P14.1: the rows of a PGroup, sorted.
func TestGroup(t *testing.T) {
	in := table("x y", "2 5", "1 -", "- 7", "2 6", "1 4", "2 5")
	all := aggs("n:count c:count:y d:count!:y s:sum:y t:sum!:y l:min:y m:max:y")
	row1, row2, row3 := "1 2 1 1 4 4 4 4", "2 3 3 2 16 11 5 6", "- 1 1 1 7 7 7 7"
	grouped(t, "all", api.LangC, in, "x", all, table("x n c d s t l m", row1, row2, row3))
	grouped(t, "all", 7, in, "x", all, table("x n c d s t l m", row1, row2, row3))
	grouped(t, "all", api.LangS, in, "x", all, table("x n c d s t l m", row3, "1 2 1 1 - - - -", row2))
	grouped(t, "lists", api.LangC, in, "x", aggs("l:collect:y k:collect!:y a:avg:y"), table("x l k a", "1 [4] [4] 4.0", "2 [5,5,6] [5,6] 5.33333333333333333333", "- [7] [7] 7.0"))
	grouped(t, "texts", api.LangS, in, "x", aggs("l:concat:y k:concat!:y a:sample:y"), api.Table{Vars: strings.Fields("x l k a"), Rows: [][]api.Value{
		{none, text("7"), text("7"), num(7)}, {num(1), none, none, num(4)}, {num(2), text("5 5 6"), text("5 6"), num(5)}}})
	for _, lang := range langs {
		grouped(t, "no keys", lang, table("x y", "2 5", "3 6"), "", aggs("n:count s:sum:y"), table("n s", "2 11"))
		grouped(t, "no keys, no rows", lang, table("x"), "", aggs("n:count c:count:x s:sum:x l:min:x"), table("n c s l", "0 0 0 -"))
		grouped(t, "no keys, no aggregates", lang, in, "", nil, table("", ""))
		grouped(t, "no keys, no aggregates, no rows", lang, table("x"), "", nil, table("", ""))
		grouped(t, "no variables", lang, table("", "", "", ""), "", aggs("n:count"), table("n", "3"))
		grouped(t, "no variables, no rows", lang, table(""), "", aggs("n:count"), table("n", "0"))
		grouped(t, "no rows", lang, table("x y"), "y x", aggs("n:count"), table("y x n"))
		grouped(t, "no aggregates", lang, table("x y", "2 5", "1 4", "2 6"), "x", nil, table("x", "1", "2"))
		grouped(t, "keys in another order", lang, table("x y z", "2 5 'a'", "1 6 'a'", "2 5 'b'", "3 4 'c'"), "y x", aggs("n:count"), table("y x n", "4 3 1", "5 2 2", "6 1 1"))
		grouped(t, "an aggregate by a variable's name", lang, table("x y", "2 5", "1 6", "2 4"), "x", aggs("y:max:y z:min:y"), table("x y z", "1 6 6", "2 5 4"))
		grouped(t, "the same aggregate twice", lang, table("x", "2", "2"), "x", aggs("a:sum:x b:sum:x"), table("x a b", "2 4 4"))
		grouped(t, "decimals", lang, table("x y", "1 0.1", "1 0.2", "2 3"), "x", aggs("s:sum:y a:avg:y"), table("x s a", "1 0.3 0.15", "2 3 3.0"))
	}
	grouped(t, "none of some", api.LangC, table("x", "-", "-"), "", aggs("n:count c:count:x s:sum:x l:min:x m:max:x a:avg:x k:collect:x"), table("n c s l m a k", "2 0 0 - - - []"))
	grouped(t, "no average of none", api.LangC, table("x"), "", aggs("a:avg:x"), table("a", "-"))
	grouped(t, "no average of none", api.LangS, table("x"), "", aggs("a:avg:x b:sample:x"), table("a b", "0 -"))
}

// TestKeys: P14.1: groups are of rows that have the same cells, and are sorted by these.
func TestKeys(t *testing.T) {
	long := strings.Repeat("l", api.MaxText)
	for _, c := range []struct {
		what string
		in   api.Table
		keys string
		want []string // in C; in S what is unbound goes ahead
	}{
		{"equal numbers", table("x", "3.0", "3", "'3'", "3", "<3>", "_x", "[3]"), "x", []string{"[3] 1", "_x 1", "<3> 1", "'3' 1", "3 2", "3.0 1"}},
		{"lists", table("x", "[-]", "[]", "[[]]", "[-]", "[[-]]", "[-,-]"), "x", []string{"[] 1", "[[]] 1", "[[-]] 1", "[-] 2", "[-,-] 1"}},
		{"unbound ones", table("x y", "- 1", "1 -", "- -", "1 1", "- 1"), "x y", []string{"1 1 1", "1 - 1", "- 1 2", "- - 1"}},
		{"unbound ones, the other way round", table("x y", "- 1", "1 -", "- -", "1 1", "- 1"), "y x", []string{"1 1 1", "1 - 2", "- 1 1", "- - 1"}},
		{"texts that go on", table("x y", "'a' 'bc'", "'ab' 'c'", "'' 'abc'", "'ab' 'c'", "'a' 'b'"), "x y", []string{"'' 'abc' 1", "'a' 'b' 1", "'a' 'bc' 1", "'ab' 'c' 2"}},
		{"bools", table("x", "T", "F", "T"), "x", []string{"F 1", "T 2"}},
		{"the same in others", table("x y", "1 'a'", "1 'b'", "1 'a'"), "x", []string{"1 3"}},
	} {
		want := table(c.keys+" n", c.want...)
		grouped(t, c.what, api.LangC, c.in, c.keys, aggs("n:count"), want)
		inS := rows.Canon(api.LangS, want)
		grouped(t, c.what, api.LangS, c.in, c.keys, aggs("n:count"), inS)
	}
	in := api.Table{Vars: []string{"x"}, Rows: [][]api.Value{{tagged("l", "en")}, {tagged("l", "de")}, {text("l")}, {tagged("l", "en")}, {tagged("le", "n")}, {text(long)}, {text(long)}, {text(long[1:])}, {{Kind: api.KNode, Int: 3}}, {{Kind: api.KEdge, Int: 3}}, {num(3)}}}
	want := api.Table{Vars: []string{"x", "n"}, Rows: [][]api.Value{{{Kind: api.KNode, Int: 3}, num(1)}, {{Kind: api.KEdge, Int: 3}, num(1)}, {tagged("l", "de"), num(1)}, {tagged("l", "en"), num(2)}, {tagged("le", "n"), num(1)}, {text("l"), num(1)}, {text(long[1:]), num(1)}, {text(long), num(2)}, {num(3), num(1)}}}
	for _, lang := range langs {
		grouped(t, "other fields", lang, in, "x", aggs("n:count"), want)
	}
}

// TestManyKeys: P14.1: as many variables as there may be; rows that differ in one of them alone.
func TestManyKeys(t *testing.T) {
	in := wide(api.MaxVars, "v")
	for i := range api.MaxVars {
		for _, v := range []api.Value{none, num(2), num(1)} {
			row := slices.Clone(in.Rows[0])
			row[i] = v
			in.Rows = append(in.Rows, row)
		}
	}
	got, err := Group(api.LangC, in, in.Vars, nil, aWorld())
	if err != api.OK || len(got.Rows) != 1+2*api.MaxVars {
		t.Errorf("%d groups, %d; want %d", len(got.Rows), err, 1+2*api.MaxVars)
	}
	is(t, "groups by all variables", got, rows.Canon(api.LangC, rows.Distinct(in)))
	many := api.Table{Vars: append([]string{"v0"}, someNames(63, "n")...), Rows: [][]api.Value{slices.Repeat([]api.Value{num(193)}, 64)}}
	many.Rows[0][0] = num(1)
	l := strings.Join(many.Vars[1:], ":count ") + ":count"
	for i := range in.Rows {
		in.Rows[i][0] = num(1)
	}
	grouped(t, "as many aggregates as there may be", api.LangC, in, "v0", aggs(l), many)
}

// TestArguments: P14.1: an argument is evaluated with the row's variables; all else is asked of env.
func TestArguments(t *testing.T) {
	in := table("x y", "1 5", "2 -", "1 6")
	node := lit(api.Value{Kind: api.KNode, Int: 1})
	for _, c := range []struct {
		what string
		name string
		arg  api.Expr
		c, s string // the aggregates of x = 1, x = 2
	}{
		{"of the row", "sum", op(api.EAdd, at("x"), at("y")), "13 0", "13 -"},
		{"a variable of env", "sum", at("w"), "6 3", "6 3"},
		{"no variable", "count", at("q"), "0 0", "0 0"},
		{"no variable", "sum", at("q"), "0 0", "- -"},
		{"unbound ones are the row's", "max", op(api.EIsNull, at("y")), "F T", "F T"},
		{"a literal", "count", lit(none), "0 0", "2 1"},
		{"a literal", "max", lit(none), "- -", "- -"},
		{"a plan", "max", exists(api.PUnit), "T T", "T T"},
		{"a plan without rows", "max", exists(api.PValues), "F F", "F F"},
		{"a property", "sum", api.Expr{Op: api.EProp, Text: "k", Args: []api.Expr{node}}, "6 3", ""},
		{"no property", "count", api.Expr{Op: api.EProp, Text: "l", Args: []api.Expr{node}}, "0 0", ""},
	} {
		for _, lang := range []int{api.LangC, api.LangS} {
			if lang == api.LangS && c.s == "" {
				continue
			}
			l := strings.Fields([]string{c.c, c.s}[lang])
			grouped(t, c.what, lang, in, "x", of(c.name, c.arg), table("x a", "1 "+l[0], "2 "+l[1]))
		}
	}
	w := aWorld()
	got, err := Group(api.LangC, in, []string{"x"}, of("count", op(api.EOr, op(api.EIsNull, at("y")), op(api.EIsNull, at("z")))), w)
	if err != api.OK || !slices.Equal(w.asked, []string{"z", "z", "z"}) {
		t.Errorf("%d, asked for %v; want z, z, z", err, w.asked)
	}
	is(t, "unbound variables", got, table("x a", "1 2", "2 1"))
}

// TestErrsInS: P14.1: in S an aggregate that errs is unbound; count and sample pass an argument that errs.
func TestErrsInS(t *testing.T) {
	in := table("x y", "1 3", "1 0", "2 3", "1 6", "3 't'", "3 0", "4 -")
	quotient := op(api.EDiv, lit(num(6)), at("y"))
	for _, c := range []struct{ name, want string }{
		{"count", "2 1 0 0"}, {"sample", "1.0 2.0 - -"}, {"sum", "- 2.0 - -"}, {"avg", "- 2.0 - -"}, {"min", "- 2.0 - -"}, {"max", "- 2.0 - -"},
	} {
		l := strings.Fields(c.want)
		want := table("x a", "1 "+l[0], "2 "+l[1], "3 "+l[2], "4 "+l[3])
		grouped(t, c.name, api.LangS, in, "x", of(c.name, quotient), want)
		unique := of(c.name, quotient)
		unique[0].E.Flag = true
		grouped(t, c.name+" of unlike ones", api.LangS, in, "x", unique, want)
	}
	grouped(t, "concat", api.LangS, table("x y", "1 3", "1 0"), "x", of("concat", quotient), table("x a", "1 -"))
	grouped(t, "aggregates that err", api.LangS, table("x y", "1 't'", "2 5", "1 3"), "x", aggs("s:sum:y m:max:y n:count:y a:avg:y"), table("x s m n a", "1 - 3 2 -", "2 5 5 1 5.0"))
	most := table("x", "9223372036854775807", "1")
	grouped(t, "a sum too great", api.LangS, most, "", aggs("s:sum:x n:count"), table("s n", "- 2"))
	grouped(t, "lists have no text", api.LangS, table("x", "[1]", "1"), "", aggs("s:concat:x n:count:x"), table("s n", "- 2"))
	grouped(t, "an error of env is one of the argument's", api.LangS, table("x", "1"), "x", of("max", exists(api.PMinus)), table("x a", "1 -"))
	grouped(t, "ErrArg of env, too", api.LangS, table("x", "1"), "x", of("count", exists(api.PUnion)), table("x a", "1 0"))
}

// TestGroupErrs: P14.1: in C the first error: of arguments row by row, then of aggregates group by group.
func TestGroupErrs(t *testing.T) {
	most := "9223372036854775807"
	zero := of("count", over(at("x")))
	kind := of("max", over(at("y")))
	kind[0].Var = "b"
	budget := of("count", exists(api.PMinus))
	budget[0].Var = "c"
	join := func(l ...[]api.Agg) []api.Agg { return slices.Concat(l...) }
	for _, c := range []struct {
		what string
		in   api.Table
		keys string
		l    []api.Agg
		want api.Errno
	}{
		{"an argument", table("x y", "1 1", "0 1"), "", zero, api.ErrZero},
		{"of another kind", table("x y", "1 't'"), "", kind, api.ErrType},
		{"of env", table("x y", "1 1"), "", budget, api.ErrBudget},
		{"row by row", table("x y", "1 1", "1 't'", "0 1"), "", join(zero, kind), api.ErrType},
		{"row by row, the other way round", table("x y", "1 1", "0 1", "1 't'"), "", join(kind, zero), api.ErrZero},
		{"in a row aggregate by aggregate", table("x y", "0 't'"), "", join(zero, kind), api.ErrZero},
		{"in a row aggregate by aggregate, the other way round", table("x y", "0 't'"), "", join(kind, zero), api.ErrType},
		{"rows, not groups", table("k x y", "2 1 't'", "1 0 1"), "k", join(zero, kind), api.ErrType},
		{"arguments ahead of aggregates", table("x y", "'t' 1", "'t' 0"), "", join(aggs("s:sum:x"), of("count", over(at("y")))), api.ErrZero},
		{"an aggregate", table("x", "1", "'t'"), "", aggs("n:count s:sum:x"), api.ErrType},
		{"a sum too great", table("x", most, "1"), "", aggs("s:sum:x"), api.ErrOverflow},
		{"an average of what is none", table("x", "T"), "x", aggs("s:avg:x"), api.ErrType},
		{"group by group", table("k x", "2 't'", "1 "+most, "1 1"), "k", aggs("s:sum:x"), api.ErrOverflow},
		{"group by group, the other way round", table("k x", "2 "+most, "1 't'", "2 1"), "k", aggs("s:sum:x"), api.ErrType},
		{"unbound keys behind", table("k x", "- 't'", "1 "+most, "1 1"), "k", aggs("s:sum:x"), api.ErrOverflow},
		{"in a group aggregate by aggregate", table("x y", "'t' "+most, "1 1"), "", aggs("s:sum:x t:sum:y"), api.ErrType},
		{"in a group aggregate by aggregate, the other way round", table("x y", "'t' "+most, "1 1"), "", aggs("t:sum:y s:sum:x"), api.ErrOverflow},
		{"a group's second ahead of another group's first", table("k x y", "2 't' 1", "1 1 "+most, "1 1 1"), "k", aggs("s:sum:x t:sum:y"), api.ErrOverflow},
	} {
		for _, lang := range []int{api.LangC, -1, 7} {
			if got, err := Group(lang, c.in, strings.Fields(c.keys), c.l, aWorld()); err != c.want || !isZero(got) {
				t.Errorf("%s in %d: %s, %d; want %d", c.what, lang, show(got), err, c.want)
			}
		}
		if _, err := Group(api.LangS, c.in, strings.Fields(c.keys), c.l, aWorld()); err != api.OK {
			t.Errorf("%s in S: %d", c.what, err)
		}
	}
	many := api.Table{Vars: []string{"x"}, Rows: slices.Repeat([][]api.Value{{num(1)}}, api.MaxParts+1)}
	if got, err := Group(api.LangC, many, nil, aggs("l:collect:x"), aWorld()); err != api.ErrOverflow || !isZero(got) {
		t.Errorf("a list too long: %d", err)
	}
	grouped(t, "a list of unlike ones", api.LangC, many, "", aggs("l:collect!:x n:count:x"), table("l n", "[1] 4097"))
	grouped(t, "no rows, no errors", api.LangC, table("x y"), "", join(zero, kind, budget), table("a b c", "0 - 0"))
}

// TestGroupRefuses: P14.1: ErrArg.
func TestGroupRefuses(t *testing.T) {
	good := table("x y", "1 2")
	n := aggs("n:count")
	refused := func(what string, lang int, in api.Table, keys []string, l []api.Agg, env expr.Env) {
		t.Helper()
		if told, err := Group(lang, in, keys, l, env); err != api.ErrArg || !isZero(told) {
			t.Errorf("%s in %d: %s, %d; want ErrArg", what, lang, short(show(told)), err)
		}
	}
	for _, lang := range langs {
		for _, in := range []api.Table{good, table("x y"), table("x y", "- 't'", "0 0")} {
			refused("no Env", lang, in, []string{"x"}, n, nil)
			for _, keys := range [][]string{{"z"}, {"x", "x"}, {"x", "y", "x"}, {""}, {"x", "z"}, {"1"}, {"X"}, someNames(api.MaxVars+1, "v")} {
				refused("keys "+short(fmt.Sprint(keys)), lang, in, keys, n, aWorld())
				refused("keys alone "+short(fmt.Sprint(keys)), lang, in, keys, nil, aWorld())
			}
			for _, l := range []string{":count", "1:count", "a.b:count", "x:count", "n:count n:count", "n:count m:count n:sum:x", "n:sum", "n:product:x", "n:Count", "n::x", "n:sum:1", strings.Repeat("n", 65) + ":count"} {
				refused("aggregates "+l, lang, in, []string{"x"}, aggs(l), aWorld())
			}
			for i, e := range []api.Expr{{}, at("x"), yes, {Op: api.EAgg, Text: "count", Args: []api.Expr{at("x"), at("x")}}, {Op: api.EAgg, Text: "sum", Args: []api.Expr{{}}}, {Op: api.EAgg, Text: "sum", Args: []api.Expr{aggs("n:count")[0].E}}, {Op: api.EAgg, Text: "count", V: num(1)}, op(api.ENeg, aggs("n:count")[0].E), {Op: 99, Text: "count"}, of("max", lit(dec("1")))[0].E, of("max", exists(api.PNone))[0].E} {
				refused("aggregate "+strconv.Itoa(i), lang, in, []string{"x"}, []api.Agg{n[0], {Var: "m", E: e}}, aWorld())
			}
			refused("too many variables", lang, in, []string{"x"}, aggs(strings.Join(someNames(api.MaxVars, "n"), ":count ")+":count"), aWorld())
		}
		for i, bad := range badTables() {
			refused("table "+strconv.Itoa(i), lang, bad, nil, n, aWorld())
			refused("table by its variables "+strconv.Itoa(i), lang, bad, bad.Vars, n, aWorld())
			refused("table alone "+strconv.Itoa(i), lang, bad, nil, nil, aWorld())
		}
	}
	refused("collect", api.LangS, good, nil, aggs("n:collect:x"), aWorld())
	refused("concat", api.LangC, good, nil, aggs("n:concat:x"), aWorld())
	refused("sample", api.LangC, good, nil, aggs("n:sample:x"), aWorld())
	refused("a list", api.LangS, good, nil, of("max", op(api.EList)), aWorld())
	deep := at("x")
	for range api.MaxDeep - 1 {
		deep = op(api.ENot, deep)
	}
	refused("an argument that is too deep", api.LangC, good, nil, of("max", deep), aWorld())
	if _, err := Group(api.LangS, good, nil, of("max", deep.Args[0]), aWorld()); err != api.OK {
		t.Errorf("an argument as deep as one may be: %d", err)
	}
	all := aggs(strings.Join(someNames(api.MaxVars-1, "n"), ":count ") + ":count")
	if told, err := Group(api.LangC, good, []string{"x"}, all, aWorld()); err != api.OK || len(told.Vars) != api.MaxVars {
		t.Errorf("as many variables as there may be: %d", err)
	}
}
