package join

import (
	"fmt"
	"slices"
	"strconv"
	"strings"
	"testing"

	"diptych/api"
	"diptych/expr"
	"diptych/rows"
	"diptych/triples"
	"diptych/value"
)

func num(n int64) api.Value         { return api.Value{Kind: api.KInt, Int: n} }
func dec(s string) api.Value        { return api.Value{Kind: api.KDec, Text: s} }
func text(s string) api.Value       { return api.Value{Kind: api.KText, Text: s} }
func truth(b bool) api.Value        { return api.Value{Kind: api.KBool, Bool: b} }
func iri(s string) api.Value        { return api.Value{Kind: api.KIri, Text: s} }
func blank(s string) api.Value      { return api.Value{Kind: api.KBlank, Text: s} }
func tagged(s, x string) api.Value  { return api.Value{Kind: api.KLit, Text: s, Extra: x} }
func list(l ...api.Value) api.Value { return api.Value{Kind: api.KList, List: l} }

func lit(v api.Value) api.Expr             { return api.Expr{Op: api.ELit, V: v} }
func at(name string) api.Expr              { return api.Expr{Op: api.EVar, Text: name} }
func op(op int, args ...api.Expr) api.Expr { return api.Expr{Op: op, Args: args} }
func exists(p int) api.Expr {
	return api.Expr{Op: api.EExists, Plan: []api.Plan{{Op: p}}}
}

// over tells whether 6 / e is 1: an error where e is 0 (ErrZero), or no number (ErrType).
func over(e api.Expr) api.Expr { return op(api.EEq, op(api.EDiv, lit(num(6)), e), lit(num(1))) }

var (
	none    api.Value
	yes, no = lit(truth(true)), lit(truth(false))
	langs   = []int{api.LangC, api.LangS, -1, 7} // what is neither is LangC
)

// read reads a value: - none; T, F a bool; 'a' a text; <a> an IRI; _a a blank node; with a point a decimal; [..] a list, commas within; a digit ahead an int; else an IRI.
func read(s string) api.Value {
	inner := s[1:max(1, len(s)-1)]
	switch {
	case s == "-":
		return none
	case s == "T" || s == "F":
		return truth(s == "T")
	case s[0] == '[':
		return list(parts(inner)...)
	case s[0] == '\'':
		return text(inner)
	case s[0] == '<':
		return iri(inner)
	case s[0] == '_':
		return blank(s[1:])
	case strings.Contains(s, "."):
		return dec(s)
	}
	n, err := strconv.ParseInt(s, 10, 64)
	if err != nil {
		return iri(s)
	}
	return num(n)
}

// parts reads what stands between the commas that are in no list.
func parts(s string) (l []api.Value) {
	begin, lists := 0, 0
	for i, c := range s + "," {
		switch {
		case c == '[':
			lists++
		case c == ']':
			lists--
		case c == ',' && lists == 0 && s != "":
			l, begin = append(l, read(s[begin:i])), i+1
		}
	}
	return l
}

// table reads a table: variables, and a text of cells for each row.
func table(vars string, rows ...string) api.Table {
	t := api.Table{Vars: strings.Fields(vars)}
	for _, r := range rows {
		var cells []api.Value
		for _, s := range strings.Fields(r) {
			cells = append(cells, read(s))
		}
		t.Rows = append(t.Rows, cells)
	}
	return t
}

// facts reads triples, with points between.
func facts(s string) []api.Triple {
	var l []api.Triple
	for _, p := range patterns(s) {
		l = append(l, api.Triple(p))
	}
	return l
}

// patterns reads patterns, with points between: ?x is a variable.
func patterns(s string) []api.Pattern {
	var l []api.Pattern
	part := func(w string) api.Value {
		if w[0] == '?' {
			return api.Value{Text: w[1:]}
		}
		return read(w)
	}
	for _, words := range strings.Split(s, " . ") {
		if w := strings.Fields(words); len(w) > 0 {
			l = append(l, api.Pattern{S: part(w[0]), P: part(w[1]), O: part(w[2])})
		}
	}
	return l
}

func store(t *testing.T, l []api.Triple) *triples.Store {
	t.Helper()
	s, err := triples.Load(l)
	if err != api.OK {
		t.Fatalf("Load: %d", err)
	}
	return s
}

// show tells a table in one line; nil and empty lists are one in it.
func show(t api.Table) string {
	var b strings.Builder
	b.WriteString(strings.Join(t.Vars, " "))
	for _, r := range t.Rows {
		b.WriteString(" |")
		for _, v := range r {
			b.WriteString(fmt.Sprintf(" %d%q%q", v.Kind, value.Text(v), v.Extra))
		}
	}
	return b.String()
}

func short(s string) string { return s[:min(len(s), 400)] }

func is(t *testing.T, what string, got, want api.Table) {
	t.Helper()
	if g, w := show(got), show(want); g != w {
		t.Errorf("%s: %s; want %s", what, short(g), short(w))
	}
}

func isZero(t api.Table) bool { return t.Vars == nil && t.Rows == nil }

// names tells so many names, all unlike.
func names(n int, ahead string) []string {
	var l []string
	for i := range n {
		l = append(l, ahead+strconv.Itoa(i))
	}
	return l
}

// wide tells a table of so many variables, with one row of ones.
func wide(n int, ahead string) api.Table {
	return api.Table{Vars: names(n, ahead), Rows: [][]api.Value{slices.Repeat([]api.Value{num(1)}, n)}}
}

// badTables are tables that may not be.
func badTables() []api.Table {
	return []api.Table{
		{Vars: []string{"1"}}, {Vars: []string{""}}, {Vars: []string{"a b"}}, {Vars: []string{"a", "b", "a"}}, {Vars: names(api.MaxVars+1, "v")}, {Vars: []string{strings.Repeat("n", 65)}},
		{Vars: []string{"a"}, Rows: [][]api.Value{{}}}, {Vars: []string{"a"}, Rows: [][]api.Value{{none}, {none, none}}}, {Rows: [][]api.Value{{none}}}, {Rows: [][]api.Value{nil, {num(1)}}},
		{Vars: []string{"a"}, Rows: [][]api.Value{{num(1)}, {iri("")}}}, {Vars: []string{"a"}, Rows: [][]api.Value{{{Kind: 99}}}}, {Vars: []string{"a"}, Rows: [][]api.Value{{list(dec("1"))}}}, {Vars: []string{"a"}, Rows: [][]api.Value{{{Text: "none"}}}},
	}
}

// world is an Env: variables and properties by name; a plan has a row if its Op is in rows, and errs by the error that stands there.
type world struct {
	vars  map[string]api.Value
	props map[string]api.Value
	rows  map[int]bool
	errs  map[int]api.Errno
	asked []string
}

func (w *world) note(what string) {
	w.asked = append(w.asked, what)
}

func (w *world) Var(name string) api.Value {
	w.note(name)
	return w.vars[name]
}

func (w *world) Prop(v api.Value, key string) api.Value {
	w.note(value.Text(v) + "." + key)
	return w.props[value.Text(v)+"."+key]
}

func (w *world) Exists(p api.Plan) (bool, api.Errno) {
	w.note("plan " + strconv.Itoa(p.Op))
	return w.rows[p.Op], w.errs[p.Op]
}

func aWorld() *world {
	return &world{
		vars:  map[string]api.Value{"w": num(3), "x": text("env's"), "y": text("env's")},
		props: map[string]api.Value{"(1).k": num(3)},
		rows:  map[int]bool{api.PUnit: true},
		errs:  map[int]api.Errno{api.PMinus: api.ErrBudget},
	}
}

// tablePair is two tables that are joined, and what is told of them.
type tablePair struct {
	what             string
	a, b             api.Table
	join, semi, anti api.Table
	minus            api.Table
}

func tablePairs() []tablePair {
	many := table("x y", "1 a", "2 b", "1 c", "3 d", "- e", "2 f")
	long := text(strings.Repeat("l", api.MaxText))
	great := api.Table{Vars: []string{"x"}, Rows: [][]api.Value{{long}, {text("l")}}}
	return []tablePair{
		{"the chapter's example", table("x", "1", "-"), table("x y", "1 2", "3 4"), table("x y", "1 2", "1 2", "3 4"), table("x", "1", "-"), table("x"), table("x", "-")},
		{"b's order for each of a's", table("x", "2", "1", "2"), many, table("x y", "2 b", "2 e", "2 f", "1 a", "1 c", "1 e", "2 b", "2 e", "2 f"), table("x", "2", "1", "2"), table("x"), table("x")},
		{"others ahead", many, table("z x", "'p' 2", "'q' -", "'r' 1", "'s' 9"), table("x y z", "1 a 'q'", "1 a 'r'", "2 b 'p'", "2 b 'q'", "1 c 'q'", "1 c 'r'", "3 d 'q'", "2 e 'p'", "- e 'q'", "1 e 'r'", "9 e 's'", "2 f 'p'", "2 f 'q'"), many, table("x y"), table("x y", "3 d", "- e")},
		{"no row that fits", table("x y", "1 1", "2 2"), table("y x", "1 2", "2 1"), table("x y"), table("x y"), table("x y", "1 1", "2 2"), table("x y", "1 1", "2 2")},
		{"cells of both are taken", table("x y z", "1 - -", "- 2 -"), table("z y x", "- 2 -", "5 - 1"), table("x y z", "1 2 -", "1 - 5", "- 2 -", "1 2 5"), table("x y z", "1 - -", "- 2 -"), table("x y z"), table("x y z")},
		{"one of two that are shared is another one", table("x y", "1 2", "1 -", "- -"), table("x y", "1 3"), table("x y", "1 3", "1 3"), table("x y", "1 -", "- -"), table("x y", "1 2"), table("x y", "1 2", "- -")},
		{"nothing is shared", table("x", "1", "2"), table("y", "a", "-"), table("x y", "1 a", "1 -", "2 a", "2 -"), table("x", "1", "2"), table("x"), table("x", "1", "2")},
		{"nothing is shared, and there is no row", table("x", "1", "2"), table("y"), table("x y"), table("x"), table("x", "1", "2"), table("x", "1", "2")},
		{"one row without variables", table("", ""), table("x", "1", "-"), table("x", "1", "-"), table("", ""), table(""), table("", "")},
		{"with one row without variables", table("x", "1", "-"), table("", ""), table("x", "1", "-"), table("x", "1", "-"), table("x"), table("x", "1", "-")},
		{"with none", table("x", "1", "-"), table(""), table("x"), table("x"), table("x", "1", "-"), table("x", "1", "-")},
		{"none", table(""), table("x", "1"), table("x"), table(""), table(""), table("")},
		{"rows without variables", table("", "", ""), table("", "", "", ""), table("", "", "", "", "", "", ""), table("", "", ""), table(""), table("", "", "")},
		{"a 3 is no 3.0, no '3' and no [3]", table("x", "3", "3.0", "'3'", "[3]", "<3>"), table("x", "3.0", "3"), table("x", "3", "3.0"), table("x", "3", "3.0"), table("x", "'3'", "[3]", "<3>"), table("x", "'3'", "[3]", "<3>")},
		{"lists with none in them are bound", table("x", "[-]", "[]", "[[-],1]"), table("x", "[]", "[1]", "[[-],1]", "[-]"), table("x", "[-]", "[]", "[[-],1]"), table("x", "[-]", "[]", "[[-],1]"), table("x"), table("x")},
		{"parts of one text", table("x y", "'a' 'bc'", "'ab' 'c'", "'' 'abc'"), table("x y", "'ab' 'c'", "'abc' ''"), table("x y", "'ab' 'c'"), table("x y", "'ab' 'c'"), table("x y", "'a' 'bc'", "'' 'abc'"), table("x y", "'a' 'bc'", "'' 'abc'")},
		{"literals of other languages", api.Table{Vars: []string{"x"}, Rows: [][]api.Value{{tagged("l", "en")}, {tagged("l", "de")}, {text("l")}}}, api.Table{Vars: []string{"x"}, Rows: [][]api.Value{{tagged("l", "de")}}}, api.Table{Vars: []string{"x"}, Rows: [][]api.Value{{tagged("l", "de")}}}, api.Table{Vars: []string{"x"}, Rows: [][]api.Value{{tagged("l", "de")}}}, api.Table{Vars: []string{"x"}, Rows: [][]api.Value{{tagged("l", "en")}, {text("l")}}}, api.Table{Vars: []string{"x"}, Rows: [][]api.Value{{tagged("l", "en")}, {text("l")}}}},
		{"the longest text", great, great, great, great, table("x"), table("x")},
		{"as many variables as there may be", wide(40, "a"), wide(24, "b"), api.Table{Vars: append(names(40, "a"), names(24, "b")...), Rows: wide(64, "v").Rows}, wide(40, "a"), api.Table{Vars: names(40, "a")}, wide(40, "a")},
		{"a variable too many", wide(40, "a"), wide(25, "b"), api.Table{}, wide(40, "a"), api.Table{Vars: names(40, "a")}, wide(40, "a")},
		{"the same as many as there may be", wide(64, "a"), wide(64, "a"), wide(64, "a"), wide(64, "a"), api.Table{Vars: names(64, "a")}, api.Table{Vars: names(64, "a")}},
	}
}

// TestPairs: P13.1: Hash, Loop, Semi, Anti and Minus of tables.
func TestPairs(t *testing.T) {
	for _, c := range tablePairs() {
		is(t, "Hash: "+c.what, Hash(c.a, c.b), c.join)
		is(t, "Loop: "+c.what, Loop(c.a, c.b), c.join)
		is(t, "Semi: "+c.what, Semi(c.a, c.b), c.semi)
		is(t, "Anti: "+c.what, Anti(c.a, c.b), c.anti)
		is(t, "Minus: "+c.what, Minus(c.a, c.b), c.minus)
	}
}

// TestTablesThatMayNotBe: the zero table is told.
func TestTablesThatMayNotBe(t *testing.T) {
	good := table("a b", "1 2")
	left := func(a, b api.Table) api.Table {
		told, err := Left(api.LangC, a, b, yes, aWorld())
		if err != api.OK {
			t.Errorf("Left of tables that may not be: %d", err)
		}
		return told
	}
	for i, bad := range badTables() {
		for n, f := range []func(a, b api.Table) api.Table{Hash, Loop, Semi, Anti, Minus, left} {
			for _, told := range []api.Table{f(bad, good), f(good, bad), f(bad, bad), f(bad, table("")), f(table(""), bad)} {
				if !isZero(told) {
					t.Errorf("call %d of table %d, which may not be: %s", n, i, short(show(told)))
				}
			}
		}
	}
	if told := left(wide(40, "a"), wide(25, "b")); !isZero(told) {
		t.Errorf("Left of too many variables: %s", short(show(told)))
	}
	for _, f := range []func(a, b api.Table) api.Table{Hash, Loop, left} {
		if told := f(wide(1, "a"), wide(64, "b")); !isZero(told) {
			t.Errorf("too many variables: %s", short(show(told)))
		}
	}
}

// TestLeft: P13.2: the rows of the join for which on is true; else the row, with unbound cells.
func TestLeft(t *testing.T) {
	a := table("x y", "1 'a'", "2 'b'", "- 'c'", "4 'd'", "2 'e'")
	b := table("z x", "1 2", "3 -", "5 1", "7 2")
	less := op(api.ELt, at("x"), at("z"))
	for _, c := range []struct {
		what string
		lang int
		on   api.Expr
		want api.Table
	}{
		{"true", api.LangC, yes, table("x y z", "1 'a' 3", "1 'a' 5", "2 'b' 1", "2 'b' 3", "2 'b' 7", "2 'c' 1", "- 'c' 3", "1 'c' 5", "2 'c' 7", "4 'd' 3", "2 'e' 1", "2 'e' 3", "2 'e' 7")},
		{"false", api.LangC, no, table("x y z", "1 'a' -", "2 'b' -", "- 'c' -", "4 'd' -", "2 'e' -")},
		{"unknown", api.LangC, lit(none), table("x y z", "1 'a' -", "2 'b' -", "- 'c' -", "4 'd' -", "2 'e' -")},
		{"of the joined row", api.LangC, less, table("x y z", "1 'a' 3", "1 'a' 5", "2 'b' 3", "2 'b' 7", "1 'c' 5", "2 'c' 7", "4 'd' -", "2 'e' 3", "2 'e' 7")},
		{"of the joined row, in S", api.LangS, less, table("x y z", "1 'a' 3", "1 'a' 5", "2 'b' 3", "2 'b' 7", "1 'c' 5", "2 'c' 7", "4 'd' -", "2 'e' 3", "2 'e' 7")},
		{"of what is unbound", api.LangC, op(api.EIsNull, at("x")), table("x y z", "1 'a' -", "2 'b' -", "- 'c' 3", "4 'd' -", "2 'e' -")},
		{"that errs in S", api.LangS, op(api.EOr, over(at("x")), op(api.EEq, at("z"), lit(num(3)))), table("x y z", "1 'a' 3", "2 'b' 3", "- 'c' 3", "4 'd' 3", "2 'e' 3")},
		{"no truth in S", api.LangS, at("q"), table("x y z", "1 'a' -", "2 'b' -", "- 'c' -", "4 'd' -", "2 'e' -")},
		{"of the Env", api.LangC, op(api.EEq, at("w"), at("z")), table("x y z", "1 'a' 3", "2 'b' 3", "- 'c' 3", "4 'd' 3", "2 'e' 3")},
		{"a property", api.LangC, op(api.EEq, api.Expr{Op: api.EProp, Text: "k", Args: []api.Expr{lit(api.Value{Kind: api.KNode, Int: 1})}}, at("z")), table("x y z", "1 'a' 3", "2 'b' 3", "- 'c' 3", "4 'd' 3", "2 'e' 3")},
		{"a plan", api.LangS, op(api.EAnd, exists(api.PUnit), op(api.EEq, at("x"), lit(num(1)))), table("x y z", "1 'a' 3", "1 'a' 5", "2 'b' -", "1 'c' 5", "4 'd' -", "2 'e' -")},
		{"a plan without rows", api.LangC, exists(api.PJoin), table("x y z", "1 'a' -", "2 'b' -", "- 'c' -", "4 'd' -", "2 'e' -")},
		{"in no language is C", 9, less, table("x y z", "1 'a' 3", "1 'a' 5", "2 'b' 3", "2 'b' 7", "1 'c' 5", "2 'c' 7", "4 'd' -", "2 'e' 3", "2 'e' 7")},
	} {
		got, err := Left(c.lang, a, b, c.on, aWorld())
		if err != api.OK {
			t.Errorf("%s: %d", c.what, err)
		}
		is(t, c.what, got, c.want)
	}
}

// TestLeftTables: P13.2: of tables of all sorts, with a condition that is true; without partners rows have unbound cells.
func TestLeftTables(t *testing.T) {
	for _, c := range tablePairs() {
		want := c.join
		if len(c.anti.Rows) > 0 && !isZero(c.join) {
			want = table(strings.Join(c.join.Vars, " "))
			for _, row := range c.a.Rows {
				alone := api.Table{Vars: c.a.Vars, Rows: [][]api.Value{row}}
				some := rows.Join(alone, c.b).Rows
				if len(some) == 0 {
					some = rows.Project(alone, c.join.Vars).Rows
				}
				want.Rows = append(want.Rows, some...)
			}
		}
		for _, lang := range langs {
			got, err := Left(lang, c.a, c.b, yes, aWorld())
			if err != api.OK {
				t.Errorf("Left: %s: %d", c.what, err)
			}
			is(t, "Left: "+c.what, got, want)
		}
	}
	got, _ := Left(api.LangC, table("x y", "1 -", "- 2"), table("z", "3"), no, aWorld())
	is(t, "unbound cells", got, table("x y z", "1 - -", "- 2 -"))
	got, _ = Left(api.LangC, table("x", "1", "-"), table("x"), yes, aWorld())
	is(t, "b without rows", got, table("x", "1", "-"))
}

// TestLeftErrs: P13.2: in C the first error is told, in the order of a's rows, then b's; in S none.
func TestLeftErrs(t *testing.T) {
	a, b := table("x", "1", "2", "3"), table("y x", "5 1", "0 2", "'t' 3", "6 2")
	for _, c := range []struct {
		what string
		a, b api.Table
		want api.Errno
		on   api.Expr
		inS  api.Table
	}{
		{"the second of a's", a, b, api.ErrZero, over(at("y")), table("x y", "1 -", "2 6", "3 -")},
		{"a's order goes ahead of b's", table("x", "3", "2"), b, api.ErrType, over(at("y")), table("x y", "3 -", "2 6")},
		{"b's order", table("x", "-"), table("y x", "6 1", "'t' 3", "0 2"), api.ErrType, over(at("y")), table("x y", "1 6")},
		{"no truth", a, b, api.ErrType, at("y"), table("x y", "1 -", "2 -", "3 't'")},
		{"behind one that is true", a, table("y x", "6 1", "0 1"), api.ErrZero, over(at("y")), table("x y", "1 6", "2 -", "3 -")},
		{"a plan that errs", a, b, api.ErrBudget, exists(api.PMinus), table("x y", "1 -", "2 -", "3 -")},
		{"without partners there is none", table("x", "9"), b, api.OK, over(at("y")), table("x y", "9 -")},
		{"without rows there is none", table("x"), b, api.OK, over(lit(num(0))), table("x y")},
		{"without rows of b there is none", a, table("y"), api.OK, over(lit(num(0))), table("x y", "1 -", "2 -", "3 -")},
	} {
		if c.on.Op == api.EVar {
			c.inS = table("x y", "1 5", "2 6", "3 't'") // a number, a text is a truth of its own in S
		}
		got, err := Left(api.LangC, c.a, c.b, c.on, aWorld())
		if err != c.want || err != api.OK && !isZero(got) {
			t.Errorf("%s: %s, %d; want %d", c.what, show(got), err, c.want)
		}
		if err == api.OK {
			is(t, c.what, got, c.inS)
		}
		got, err = Left(api.LangS, c.a, c.b, c.on, aWorld())
		if err != api.OK {
			t.Errorf("%s, in S: %d", c.what, err)
		}
		is(t, c.what+", in S", got, c.inS)
	}
}

// TestLeftAsks: P13.2: a joined row's variables are not asked of env, whether they are bound or not.
func TestLeftAsks(t *testing.T) {
	w := aWorld()
	on := op(api.EAnd, op(api.EIsNull, at("x")), op(api.EAnd, op(api.EIsNull, at("y")), op(api.EIsNull, at("z"))))
	got, err := Left(api.LangC, table("x y", "- -"), table("y", "-"), on, w)
	if err != api.OK || !slices.Equal(w.asked, []string{"z"}) {
		t.Errorf("%d, asked for %v; want z", err, w.asked)
	}
	is(t, "unbound variables", got, table("x y", "- -"))
}

// TestLeftRefuses: P13.2: ErrArg, whatever the tables are.
func TestLeftRefuses(t *testing.T) {
	good := table("a b", "1 2")
	deep := yes
	for range api.MaxDeep {
		deep = op(api.ENot, deep)
	}
	refused := func(what string, lang int, a, b api.Table, on api.Expr, env expr.Env) {
		t.Helper()
		if told, err := Left(lang, a, b, on, env); err != api.ErrArg || !isZero(told) {
			t.Errorf("%s in %d: %s, %d; want ErrArg", what, lang, short(show(told)), err)
		}
	}
	for _, tables := range [][2]api.Table{{good, good}, {table("a"), table("")}, {badTables()[0], good}, {good, badTables()[0]}, {wide(40, "a"), wide(25, "b")}} {
		for _, lang := range langs {
			a, b := tables[0], tables[1]
			refused("no Env", lang, a, b, yes, nil)
			for i, on := range []api.Expr{{}, {Op: 99}, op(api.ENot), op(api.EAnd, yes), at("1"), lit(dec("1")), deep, {Op: api.ELit, Text: "t"}, {Op: api.EAgg, Text: "count"}, op(api.ENot, api.Expr{Op: api.EAgg, Text: "max", Args: []api.Expr{at("a")}}), exists(api.PNone)} {
				refused("condition "+strconv.Itoa(i), lang, a, b, on, aWorld())
			}
		}
		refused("a list", api.LangS, tables[0], tables[1], op(api.EList), aWorld())
		refused("isiri", api.LangC, tables[0], tables[1], api.Expr{Op: api.ECall, Text: "isiri", Args: []api.Expr{yes}}, aWorld())
	}
	deep = deep.Args[0]
	if _, err := Left(api.LangC, good, good, deep, aWorld()); err != api.OK {
		t.Errorf("a condition as deep as one may be: %d", err)
	}
}
