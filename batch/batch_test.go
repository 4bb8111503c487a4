package batch

import (
	"fmt"
	"math"
	"slices"
	"strconv"
	"strings"
	"testing"

	"diptych/api"
	"diptych/expr"
	"diptych/value"
)

func num(n int64) api.Value         { return api.Value{Kind: api.KInt, Int: n} }
func dec(s string) api.Value        { return api.Value{Kind: api.KDec, Text: s} }
func text(s string) api.Value       { return api.Value{Kind: api.KText, Text: s} }
func truth(b bool) api.Value        { return api.Value{Kind: api.KBool, Bool: b} }
func iri(s string) api.Value        { return api.Value{Kind: api.KIri, Text: s} }
func tagged(s, x string) api.Value  { return api.Value{Kind: api.KLit, Text: s, Extra: x} }
func node(id int64) api.Value       { return api.Value{Kind: api.KNode, Int: id} }
func list(l ...api.Value) api.Value { return api.Value{Kind: api.KList, List: l} }
func row(l ...api.Value) []api.Value {
	return l
}

func lit(v api.Value) api.Expr             { return api.Expr{Op: api.ELit, V: v} }
func at(name string) api.Expr              { return api.Expr{Op: api.EVar, Text: name} }
func op(op int, args ...api.Expr) api.Expr { return api.Expr{Op: op, Args: args} }
func call(name string, args ...api.Expr) api.Expr {
	return api.Expr{Op: api.ECall, Text: name, Args: args}
}
func prop(e api.Expr, key string) api.Expr {
	return api.Expr{Op: api.EProp, Text: key, Args: []api.Expr{e}}
}
func agg(name string, args ...api.Expr) api.Expr {
	return api.Expr{Op: api.EAgg, Text: name, Args: args}
}
func exists(p int) api.Expr {
	return api.Expr{Op: api.EExists, Plan: []api.Plan{{Op: p}}}
}

// over tells 6 / e: an error of the language where e is 0 (ErrZero), or no number (ErrType).
func over(e api.Expr) api.Expr { return op(api.EDiv, lit(num(6)), e) }

var (
	none    api.Value
	yes, no = lit(truth(true)), lit(truth(false))
	langs   = []int{api.LangC, api.LangS, -1, 7} // what is neither is LangC
)

// read reads a value: - none; T, F a bool; 'a' a text; <a> an IRI; (1) a node; with a point a decimal; [..] a list, commas within; else an int.
func read(s string) api.Value {
	inner := s[1:max(1, len(s)-1)]
	switch {
	case s == "-":
		return none
	case s == "T" || s == "F":
		return truth(s == "T")
	case s[0] == '[':
		return list(parts(inner)...)
	case s[0] == '\'':
		return text(inner)
	case s[0] == '<':
		return iri(inner)
	case s[0] == '(':
		return node(read(inner).Int)
	case strings.Contains(s, "."):
		return dec(s)
	}
	n, err := strconv.ParseInt(s, 10, 64)
	if err != nil {
		panic(s)
	}
	return num(n)
}

// parts reads what stands between the commas that are in no list.
func parts(s string) (l []api.Value) {
	begin, lists := 0, 0
	for i, c := range s + "," {
		switch {
		case c == '[':
			lists++
		case c == ']':
			lists--
		case c == ',' && lists == 0 && s != "":
			l, begin = append(l, read(s[begin:i])), i+1
		}
	}
	return l
}

// table reads a table: variables, and a text of cells for each row.
func table(vars string, rows ...string) api.Table {
	t := api.Table{Vars: strings.Fields(vars)}
	for _, r := range rows {
		var cells []api.Value
		for _, s := range strings.Fields(r) {
			cells = append(cells, read(s))
		}
		t.Rows = append(t.Rows, cells)
	}
	return t
}

// show tells a table in one line; nil and empty lists are one in it.
func show(t api.Table) string {
	var b strings.Builder
	b.WriteString(strings.Join(t.Vars, " "))
	for _, r := range t.Rows {
		b.WriteString(" |")
		for _, v := range r {
			b.WriteString(fmt.Sprintf(" %d%q%q", v.Kind, value.Text(v), v.Extra))
		}
	}
	return b.String()
}

func short(s string) string { return s[:min(len(s), 400)] }

func is(t *testing.T, what string, got, want api.Table) {
	t.Helper()
	if g, w := show(got), show(want); g != w {
		t.Errorf("%s: %s; want %s", what, short(g), short(w))
	}
}

// holds tells whether b has this table, and these rows of what came.
func holds(t *testing.T, what string, b *Batch, want api.Table, chosen ...int) {
	t.Helper()
	is(t, what, b.Table(), want)
	if got := b.Chosen(); !slices.Equal(got, chosen) {
		t.Errorf("%s: chosen are %v; want %v", what, got, chosen)
	}
	if b.Len() != len(chosen) {
		t.Errorf("%s: Len: %d; want %d", what, b.Len(), len(chosen))
	}
}

func of(t *testing.T, table api.Table, chosen ...int) *Batch {
	t.Helper()
	b, err := Of(table)
	if err != api.OK {
		t.Fatalf("Of %s: %d", short(show(table)), err)
	}
	if len(chosen) > 0 {
		if err := b.Choose(chosen); err != api.OK {
			t.Fatalf("Choose(%v): %d", chosen, err)
		}
	}
	return b
}

// names tells so many names, all unlike.
func names(n int, ahead string) []string {
	var l []string
	for i := range n {
		l = append(l, ahead+strconv.Itoa(i))
	}
	return l
}

// world is an Env: variables and properties by name; a plan has a row if its Op is in rows, and errs by the error that stands there.
type world struct {
	vars  map[string]api.Value
	props map[string]api.Value
	rows  map[int]bool
	errs  map[int]api.Errno
	asked []string
}

func (w *world) note(what string) {
	w.asked = append(w.asked, what)
}

func (w *world) Var(name string) api.Value {
	w.note(name)
	return w.vars[name]
}

func (w *world) Prop(v api.Value, key string) api.Value {
	w.note(value.Text(v) + "." + key)
	return w.props[value.Text(v)+"."+key]
}

func (w *world) Exists(p api.Plan) (bool, api.Errno) {
	w.note("plan " + strconv.Itoa(p.Op))
	return w.rows[p.Op], w.errs[p.Op]
}

func aWorld() *world {
	return &world{
		vars:  map[string]api.Value{"w": num(7), "x": text("env's"), "l": list(num(8), num(9)), "bad": {Kind: 99}},
		props: map[string]api.Value{"(1).k": num(11), "(1).\x00labels": list(text("A")), "(2).k": {Kind: -1}},
		rows:  map[int]bool{api.PUnit: true, api.PJoin: true},
		errs:  map[int]api.Errno{api.PMinus: api.ErrBudget},
	}
}

// badTables are tables that may not be.
func badTables() []api.Table {
	return []api.Table{
		{Vars: []string{"1"}}, {Vars: []string{""}}, {Vars: []string{"a b"}}, {Vars: []string{"a", "b", "a"}}, {Vars: names(api.MaxVars+1, "v")}, {Vars: []string{strings.Repeat("n", 65)}},
		{Vars: []string{"a"}, Rows: [][]api.Value{{}}}, {Vars: []string{"a"}, Rows: [][]api.Value{{none}, {none, none}}}, {Rows: [][]api.Value{{none}}}, {Rows: [][]api.Value{nil, {num(1)}}},
		{Vars: []string{"a"}, Rows: [][]api.Value{{num(1)}, {iri("")}}}, {Vars: []string{"a"}, Rows: [][]api.Value{{{Kind: 99}}}}, {Vars: []string{"a"}, Rows: [][]api.Value{{list(dec("1"))}}}, {Vars: []string{"a"}, Rows: [][]api.Value{{{Text: "none"}}}},
	}
}

// TestOf: P12.1: all rows of a table are there, and chosen.
func TestOf(t *testing.T) {
	for _, c := range []api.Table{
		{}, table("x"), table("", "", "", ""), table("x", "1", "-", "1"), table("y x", "1 -", "- 2", "- -", "1 -"),
		table("a b", "'t' [1,[2],-]", "<i> (3)", "0.5 T"), {Vars: []string{"a"}, Rows: [][]api.Value{{tagged("l", "en")}, {list()}, {text(strings.Repeat("x", api.MaxText))}}},
		{Vars: names(api.MaxVars, "v"), Rows: [][]api.Value{make([]api.Value, api.MaxVars)}},
	} {
		b, err := Of(c)
		if err != api.OK || b == nil {
			t.Fatalf("Of %s: %d", short(show(c)), err)
		}
		holds(t, "Of", b, c, upTo(len(c.Rows))...)
	}
	many := table("n")
	for i := range 3 * api.MaxBatch {
		many.Rows = append(many.Rows, row(num(int64(i))))
	}
	holds(t, "Of many", of(t, many), many, upTo(len(many.Rows))...)
	for i, bad := range badTables() {
		if b, err := Of(bad); b != nil || err != api.ErrArg {
			t.Errorf("Of table %d, which may not be: %v, %d", i, b, err)
		}
	}
}

// TestChoose: P12.1: just these, of those that were chosen, by the numbers of the table that came.
func TestChoose(t *testing.T) {
	all := table("x y", "0 -", "1 'a'", "2 -", "3 'b'", "4 'c'")
	b := of(t, all)
	for _, c := range []struct {
		at   []int
		want api.Table
	}{
		{[]int{0, 1, 2, 3, 4}, all},
		{[]int{0, 2, 3, 4}, table("x y", "0 -", "2 -", "3 'b'", "4 'c'")},
		{[]int{2, 4}, table("x y", "2 -", "4 'c'")},
		{[]int{4}, table("x y", "4 'c'")},
		{[]int{4}, table("x y", "4 'c'")},
		{nil, table("x y")},
		{[]int{}, table("x y")},
	} {
		if err := b.Choose(c.at); err != api.OK {
			t.Errorf("Choose(%v): %d", c.at, err)
		}
		holds(t, fmt.Sprint("Choose ", c.at), b, c.want, c.at...)
	}
	if err := b.Choose([]int{4}); err != api.ErrArg {
		t.Errorf("Choose of what is chosen no more: %d", err)
	}
	bare := of(t, table("", "", "", ""))
	if err := bare.Choose([]int{1, 2}); err != api.OK {
		t.Errorf("Choose of rows without cells: %d", err)
	}
	holds(t, "rows without cells", bare, table("", "", ""), 1, 2)
}

// TestChooseNone: P12.1: numbers that don't rise strictly, or are not chosen.
func TestChooseNone(t *testing.T) {
	b := of(t, table("x", "0", "1", "2", "3", "4"), 1, 2, 4)
	for _, l := range [][]int{{0}, {3}, {5}, {-1}, {1, 1}, {2, 1}, {1, 2, 2}, {1, 2, 3, 4}, {4, 2}, {1, 4, 2}, {1, 2, 4, 5}, {math.MinInt}, {math.MaxInt}, {1, math.MaxInt}, {1 << 32}, {1, 2, 1<<32 + 4}} {
		if err := b.Choose(l); err != api.ErrArg {
			t.Errorf("Choose(%v): %d; want ErrArg", l, err)
		}
		holds(t, "behind a Choose that is refused", b, table("x", "1", "2", "4"), 1, 2, 4)
	}
	empty := of(t, table("x"))
	if err := empty.Choose([]int{0}); err != api.ErrArg {
		t.Errorf("Choose of no row: %d", err)
	}
	if err := empty.Choose(nil); err != api.OK {
		t.Errorf("Choose of none of no row: %d", err)
	}
}

// TestFilter: P12.2: the chosen rows for which a condition is true.
func TestFilter(t *testing.T) {
	all := table("x y", "1 T", "2 F", "- -", "3 T", "4 -")
	for _, c := range []struct {
		lang   int
		e      api.Expr
		chosen []int
	}{
		{api.LangC, yes, []int{0, 1, 2, 3, 4}}, {api.LangS, yes, []int{0, 1, 2, 3, 4}}, {api.LangC, no, nil}, {api.LangS, no, nil},
		{api.LangC, at("y"), []int{0, 3}}, {api.LangS, at("y"), []int{0, 3}}, {api.LangS, at("x"), []int{0, 1, 3, 4}},
		{api.LangC, op(api.ENot, at("y")), []int{1}}, {api.LangC, op(api.EIsNull, at("y")), []int{2, 4}}, {api.LangC, lit(none), nil},
		{api.LangC, op(api.EGt, at("x"), lit(num(1))), []int{1, 3, 4}}, {7, op(api.EOr, at("y"), op(api.EGe, at("x"), lit(dec("3.5")))), []int{0, 3, 4}},
		{api.LangS, op(api.EEq, over(op(api.ESub, at("x"), lit(num(2)))), lit(num(6))), []int{3}}, {api.LangS, over(lit(num(0))), nil}, {api.LangS, lit(iri("a")), nil}, {api.LangS, exists(api.PMinus), nil},
	} {
		b := of(t, all)
		if err := b.Filter(c.lang, c.e, aWorld()); err != api.OK {
			t.Errorf("Filter(%d, %v): %d", c.lang, c.e, err)
		}
		want := api.Table{Vars: all.Vars}
		for _, i := range c.chosen {
			want.Rows = append(want.Rows, all.Rows[i])
		}
		holds(t, fmt.Sprintf("Filter(%d, %v)", c.lang, c.e), b, want, c.chosen...)
	}
	b := of(t, all, 1, 3, 4)
	b.Filter(api.LangC, op(api.EGt, at("x"), lit(num(2))), aWorld())
	holds(t, "of some rows", b, table("x y", "3 T", "4 -"), 3, 4)
	b.Filter(api.LangC, op(api.ENe, at("x"), lit(num(3))), aWorld())
	holds(t, "of some of these", b, table("x y", "4 -"), 4)
}

// TestErrors: P12.2: in C the first error, row by row, of the chosen rows; the batch stays as it was.
func TestErrors(t *testing.T) {
	all := table("x", "1", "0", "'a'", "0", "-")
	for _, c := range []struct {
		chosen []int
		e      api.Expr
		want   api.Errno
	}{
		{[]int{0, 1, 2, 3, 4}, over(at("x")), api.ErrZero}, {[]int{0, 2, 3}, over(at("x")), api.ErrType}, {[]int{3, 4}, over(at("x")), api.ErrZero}, {[]int{2}, over(at("x")), api.ErrType},
		{[]int{0, 1}, exists(api.PMinus), api.ErrBudget}, {[]int{0, 1, 2}, op(api.EAdd, at("x"), lit(num(math.MaxInt64))), api.ErrOverflow}, {[]int{4}, op(api.EAnd, lit(num(1)), yes), api.ErrType},
	} {
		for _, lang := range []int{api.LangC, -1, 7} {
			b := of(t, all, c.chosen...)
			want := b.Table()
			filtered := b.Filter(lang, op(api.EEq, c.e, lit(num(6))), aWorld())
			extended := b.Extend(lang, "y", c.e, aWorld())
			unwound, err := b.Unwind(lang, "y", op(api.EList, c.e), aWorld())
			if filtered != c.want || extended != c.want || unwound != nil || err != c.want {
				t.Errorf("in %d of rows %v Filter, Extend, Unwind: %d, %d, %v, %d; want %d", lang, c.chosen, filtered, extended, unwound, err, c.want)
			}
			holds(t, "behind an error", b, want, c.chosen...)
		}
	}
	for lang, want := range []api.Errno{api.ErrType, api.OK} {
		b := of(t, table("x", "T", "<a>", "F"))
		if err := b.Filter(lang, at("x"), aWorld()); err != want {
			t.Errorf("Filter by a condition that says no truth: %d; want %d", err, want)
		}
	}
}

// TestNoErrors: P12.2: errors of S drop rows, or leave variables unbound.
func TestNoErrors(t *testing.T) {
	all := table("x", "1", "0", "'a'", "0", "-", "2")
	b := of(t, all)
	unwound, err := b.Unwind(api.LangS, "y", call("if", op(api.EEq, over(at("x")), lit(num(6))), lit(read("[8,9]")), over(at("x"))), aWorld())
	if err != api.OK {
		t.Fatalf("Unwind: %d", err)
	}
	holds(t, "Unwind", unwound, table("x y", "1 8", "1 9"), 0, 1)
	if err := b.Extend(api.LangS, "y", over(at("x")), aWorld()); err != api.OK {
		t.Errorf("Extend: %d", err)
	}
	holds(t, "Extend", b, table("x y", "1 6.0", "0 -", "'a' -", "0 -", "- -", "2 3.0"), 0, 1, 2, 3, 4, 5)
	if err := b.Filter(api.LangS, op(api.EGt, over(at("x")), lit(num(0))), aWorld()); err != api.OK {
		t.Errorf("Filter: %d", err)
	}
	holds(t, "Filter", b, table("x y", "1 6.0", "2 3.0"), 0, 5)
}

// TestExtend: P12.2: a variable more, behind the others.
func TestExtend(t *testing.T) {
	all := table("x y", "1 'a'", "0 'b'", "- 'c'", "4 -")
	for _, c := range []struct {
		lang int
		e    api.Expr
		want string
	}{
		{api.LangC, lit(num(5)), "5 5 5 5"}, {api.LangS, lit(list(num(5))), "[5] [5] [5] [5]"}, {api.LangC, lit(none), "- - - -"}, {api.LangC, at("x"), "1 0 - 4"}, {api.LangS, at("x"), "1 0 - 4"}, {api.LangC, at("w"), "7 7 7 7"}, {api.LangC, at("missing"), "- - - -"},
		{api.LangC, op(api.EAdd, at("x"), at("x")), "2 0 - 8"}, {api.LangS, over(at("x")), "6.0 - - 1.5"}, {api.LangS, op(api.EAnd, at("y"), yes), "T T T -"}, {api.LangC, op(api.EList, at("y"), at("x")), "['a',1] ['b',0] ['c',-] [-,4]"}, {api.LangS, exists(api.PMinus), "- - - -"},
		{api.LangS, call("coalesce", at("x"), lit(num(9))), "1 0 9 4"}, {-1, call("coalesce", at("x"), at("y")), "1 0 'c' 4"}, {api.LangC, exists(api.PUnit), "T T T T"}, {api.LangC, at("bad"), "- - - -"},
	} {
		b := of(t, all)
		if err := b.Extend(c.lang, "z", c.e, aWorld()); err != api.OK {
			t.Errorf("Extend(%d, %v): %d", c.lang, c.e, err)
		}
		want := table("x y z")
		for i, s := range strings.Fields(c.want) {
			want.Rows = append(want.Rows, append(slices.Clone(all.Rows[i]), read(s)))
		}
		holds(t, fmt.Sprintf("Extend(%d, %v)", c.lang, c.e), b, want, 0, 1, 2, 3)
	}
}

// TestExtendSome: P12.2: what is extended goes on: with rows that are not chosen, with columns upon columns.
func TestExtendSome(t *testing.T) {
	b := of(t, table("x", "0", "2", "0", "3", "0"), 1, 3)
	for i, e := range []api.Expr{over(at("x")), op(api.EAdd, at("e0"), at("x")), op(api.EMul, at("e1"), at("e0"))} {
		if err := b.Extend(api.LangC, "e"+strconv.Itoa(i), e, aWorld()); err != api.OK {
			t.Fatalf("Extend %d: %d", i, err)
		}
	}
	holds(t, "columns upon columns", b, table("x e0 e1 e2", "2 3 5 15", "3 2 5 10"), 1, 3)
	b.Choose([]int{3})
	b.Extend(api.LangC, "f", at("e2"), aWorld())
	holds(t, "and one of fewer rows", b, table("x e0 e1 e2 f", "3 2 5 10 10"), 3)
	bare := of(t, table("", "", "", ""), 0, 2)
	bare.Extend(api.LangC, "w2", at("w"), aWorld())
	holds(t, "rows without cells", bare, table("w2", "7", "7"), 0, 2)
	empty := of(t, table("x"))
	if err := empty.Extend(api.LangC, "y", over(lit(num(0))), aWorld()); err != api.OK {
		t.Errorf("Extend of no row: %d", err)
	}
	holds(t, "no row", empty, table("x y"))
}

// TestTooLong: P12.2, P12.4: in S a text that may not be, being too long, is unbound, as it is in the algebra.
func TestTooLong(t *testing.T) {
	long := text(strings.Repeat("x", api.MaxText))
	b := of(t, api.Table{Vars: []string{"x"}, Rows: [][]api.Value{{long}, {list(long)}, {num(1)}}})
	if err := b.Extend(api.LangS, "y", call("text", at("x")), aWorld()); err != api.OK {
		t.Errorf("Extend: %d", err)
	}
	b.Project([]string{"y"})
	holds(t, "texts of a text, of a list of it, of a number", b, api.Table{Vars: []string{"y"}, Rows: [][]api.Value{{long}, {none}, {text("1")}}}, 0, 1, 2)
}

// TestUnwind: P12.2: a row for each element.
func TestUnwind(t *testing.T) {
	all := table("x l", "1 [1,2]", "2 []", "3 -", "4 ['a',-,[5]]", "5 [2,2]")
	for _, lang := range langs {
		b := of(t, all)
		got, err := b.Unwind(lang, "e", at("l"), aWorld())
		if err != api.OK {
			t.Fatalf("Unwind in %d: %d", lang, err)
		}
		want := table("x l e", "1 [1,2] 1", "1 [1,2] 2", "4 ['a',-,[5]] 'a'", "4 ['a',-,[5]] -", "4 ['a',-,[5]] [5]", "5 [2,2] 2", "5 [2,2] 2")
		holds(t, "Unwind", got, want, 0, 1, 2, 3, 4, 5, 6)
		holds(t, "what it is of", b, all, 0, 1, 2, 3, 4)
		b.Choose([]int{1, 2, 4})
		some, _ := b.Unwind(lang, "e", at("l"), aWorld())
		holds(t, "Unwind of some rows", some, table("x l e", "5 [2,2] 2", "5 [2,2] 2"), 0, 1)
		again, err := got.Unwind(lang, "f", lit(list(num(0), num(1))), aWorld())
		if err != api.OK || again.Len() != 14 || !value.Same(again.Table().Rows[5][3], num(1)) {
			t.Errorf("Unwind of what is unwound: %d, %s", err, show(again.Table()))
		}
		fromEnv, _ := b.Unwind(lang, "e", at("w"), &world{vars: map[string]api.Value{"w": list(num(8))}})
		holds(t, "Unwind of env's list", fromEnv, table("x l e", "2 [] 8", "3 - 8", "5 [2,2] 8"), 0, 1, 2)
		bare, _ := of(t, table("", "", "", ""), 0, 2).Unwind(lang, "e", lit(read("[1,-]")), aWorld())
		holds(t, "Unwind of rows without cells", bare, table("e", "1", "-", "1", "-"), 0, 1, 2, 3)
	}
}

// TestUnwindNoList: P12.2: what is no list: ErrType in C, no row in S.
func TestUnwindNoList(t *testing.T) {
	for _, s := range []string{"5", "'a'", "T", "0.5", "<a>", "(1)"} {
		b := of(t, api.Table{Vars: []string{"l"}, Rows: [][]api.Value{{list(num(1))}, {read(s)}, {none}, {list(num(2), num(3))}}})
		want := b.Table()
		for _, lang := range langs {
			got, err := b.Unwind(lang, "e", at("l"), aWorld())
			if lang == api.LangS {
				if err != api.OK {
					t.Fatalf("Unwind of %s in S: %d", s, err)
				}
				holds(t, "Unwind in S of "+s, got, table("l e", "[1] 1", "[2,3] 2", "[2,3] 3"), 0, 1, 2)
			} else if got != nil || err != api.ErrType {
				t.Errorf("Unwind of %s in C: %v, %d", s, got, err)
			}
			holds(t, "behind it", b, want, 0, 1, 2, 3)
		}
	}
	for _, c := range []struct {
		rows []string
		want api.Errno
	}{{[]string{"[1]", "0", "'a'"}, api.ErrZero}, {[]string{"1", "0"}, api.ErrType}, {[]string{"'a'", "0"}, api.ErrType}, {[]string{"-", "0", "1"}, api.ErrZero}} {
		b := of(t, table("l", c.rows...))
		zero := op(api.EEq, at("l"), lit(num(0)))
		e := api.Expr{Op: api.ECase, Args: []api.Expr{zero, over(at("l")), at("l")}}
		if got, err := b.Unwind(api.LangC, "e", e, aWorld()); got != nil || err != c.want {
			t.Errorf("Unwind of %v: %v, %d; want %d", c.rows, got, err, c.want)
		}
	}
}

// TestProject: P12.2: just these variables, in that order, unbound where they are new.
func TestProject(t *testing.T) {
	all := table("x y z", "1 2 3", "4 - 6", "7 8 -")
	for _, c := range []struct {
		vars string
		want api.Table
	}{
		{"x y z", all}, {"z x", table("z x", "3 1", "6 4", "- 7")}, {"y", table("y", "2", "-", "8")}, {"", table("", "", "", "")}, {"new", table("new", "-", "-", "-")}, {"n y m x", table("n y m x", "- 2 - 1", "- - - 4", "- 8 - 7")},
	} {
		b := of(t, all)
		if err := b.Project(strings.Fields(c.vars)); err != api.OK {
			t.Errorf("Project(%s): %d", c.vars, err)
		}
		holds(t, "Project "+c.vars, b, c.want, 0, 1, 2)
	}
	b := of(t, all, 0, 2)
	b.Project([]string{"y", "n"})
	holds(t, "of some rows", b, table("y n", "2 -", "8 -"), 0, 2)
	b.Project([]string{"x", "n", "y"})
	holds(t, "what was dropped is new", b, table("x n y", "- - 2", "- - 8"), 0, 2)
	if err := b.Extend(api.LangC, "z", op(api.EAdd, at("y"), lit(num(1))), aWorld()); err != api.OK {
		t.Errorf("Extend by a name that was dropped: %d", err)
	}
	b.Filter(api.LangC, op(api.EIsNull, at("x")), aWorld())
	holds(t, "columns behind those", b, table("x n y z", "- - 2 3", "- - 8 9"), 0, 2)
	most := of(t, all)
	if err := most.Project(names(api.MaxVars, "v")); err != api.OK || len(most.Table().Vars) != api.MaxVars {
		t.Errorf("Project to MaxVars variables: %d", err)
	}
	for _, bad := range [][]string{{"x", "x"}, {"n", "x", "n"}, {""}, {"1"}, {"a b"}, {"x", "é"}, {strings.Repeat("n", 65)}, names(api.MaxVars+1, "v")} {
		b := of(t, all, 1)
		if err := b.Project(bad); err != api.ErrArg {
			t.Errorf("Project(%.9q): %d; want ErrArg", bad, err)
		}
		holds(t, "behind a Project that is refused", b, table("x y z", "4 - 6"), 1)
	}
}

// refuses tells whether all three calls refuse these arguments, and leave b as it is.
func refuses(t *testing.T, what string, b *Batch, lang int, e api.Expr, env expr.Env) {
	t.Helper()
	want, chosen := b.Table(), b.Chosen()
	if err := b.Filter(lang, e, env); err != api.ErrArg {
		t.Errorf("Filter, %s: %d; want ErrArg", what, err)
	}
	refusesName(t, what, b, "new", lang, e, env)
	holds(t, "behind "+what, b, want, chosen...)
}

func refusesName(t *testing.T, what string, b *Batch, name string, lang int, e api.Expr, env expr.Env) {
	t.Helper()
	if err := b.Extend(lang, name, e, env); err != api.ErrArg {
		t.Errorf("Extend, %s: %d; want ErrArg", what, err)
	}
	if got, err := b.Unwind(lang, name, e, env); got != nil || err != api.ErrArg {
		t.Errorf("Unwind, %s: %v, %d; want ErrArg", what, got, err)
	}
}

// TestArguments: P12.2: no env, an expression that may not be, an aggregate, of whatever rows.
func TestArguments(t *testing.T) {
	deep := yes
	for range api.MaxDeep {
		deep = op(api.ENot, deep)
	}
	for _, all := range []api.Table{{}, table("", ""), table("x"), table("x", "1", "2")} {
		for _, lang := range langs {
			refuses(t, "no env", of(t, all), lang, yes, nil)
			for _, e := range []api.Expr{
				{}, {Op: 99}, {Op: -1}, lit(api.Value{Kind: 99}), lit(iri("")), at(""), at("1"), op(api.ENot), op(api.EAdd, yes), op(api.EIsNull, yes, yes), {Op: api.EVar, Text: "x", Flag: true}, call("no", yes), call("abs"), deep,
				exists(api.PNone), {Op: api.EExists}, op(api.ECase, yes, yes), agg("count"), agg("min", at("x")), op(api.EEq, agg("count"), lit(num(1))), op(api.EAnd, no, op(api.EIsNull, agg("count", at("x")))),
			} {
				refuses(t, fmt.Sprintf("%.80v in %d", e, lang), of(t, all), lang, e, aWorld())
			}
		}
		refuses(t, "a list in S", of(t, all), api.LangS, op(api.EList), aWorld())
		refuses(t, "a property in S", of(t, all), api.LangS, prop(yes, "k"), aWorld())
		refuses(t, "a function of S in C", of(t, all), api.LangC, call("isiri", yes), aWorld())
	}
}

// TestNames: P12.2: the name of a new variable.
func TestNames(t *testing.T) {
	for _, lang := range langs {
		b := of(t, table("x y", "1 2", "3 4"), 1)
		for _, name := range []string{"", "1", "a b", "-", "x ", "é", strings.Repeat("n", 65), "x", "y"} {
			refusesName(t, "named "+short(name), b, name, lang, lit(list()), aWorld())
		}
		holds(t, "behind names that are refused", b, table("x y", "3 4"), 1)
		for _, name := range []string{"_", "X", "x1", strings.Repeat("n", 64), "w"} {
			c := of(t, table("x y", "1 2"))
			unwound, unwindErr := c.Unwind(lang, name, lit(read("[5]")), aWorld())
			if err := c.Extend(lang, name, lit(num(5)), aWorld()); err != api.OK || unwindErr != api.OK {
				t.Fatalf("Extend, Unwind by %s: %d, %d", name, err, unwindErr)
			}
			is(t, "Extend", c.Table(), table("x y "+name, "1 2 5"))
			is(t, "Unwind", unwound.Table(), table("x y "+name, "1 2 5"))
			refusesName(t, "the same name again", c, name, lang, lit(list()), aWorld())
		}
		wide := of(t, api.Table{Vars: names(api.MaxVars-1, "v")})
		unwound, _ := wide.Unwind(lang, "last", lit(list()), aWorld())
		if err := wide.Extend(lang, "last", yes, aWorld()); err != api.OK || unwound == nil {
			t.Errorf("Extend to MaxVars: %d", err)
		}
		refusesName(t, "beyond MaxVars", wide, "more", lang, lit(list()), aWorld())
		refusesName(t, "beyond MaxVars", unwound, "more", lang, lit(list()), aWorld())
	}
}

// TestEnv: P12.2: a variable of the batch is the row's, unbound ones, too; all else is asked of env.
func TestEnv(t *testing.T) {
	b := of(t, table("x n", "1 (1)", "- (2)", "5 (3)"), 0, 1)
	w := aWorld()
	e := op(api.EList, at("x"), at("w"), prop(at("n"), "k"), call("labels", at("n")), exists(api.PUnit), exists(api.PMatch))
	if err := b.Extend(api.LangC, "e", e, w); err != api.OK {
		t.Fatal(err)
	}
	holds(t, "Extend", b, table("x n e", "1 (1) [1,7,11,['A'],T,F]", "- (2) [-,7,-,-,T,F]"), 0, 1)
	asked := "w (1).k (1).\x00labels plan 1 plan 4 w (2).k (2).\x00labels plan 1 plan 4"
	if got := strings.Join(w.asked, " "); got != asked {
		t.Errorf("env is asked for %q; want %q", got, asked)
	}
	w = aWorld()
	unwound, err := b.Unwind(api.LangC, "x2", op(api.EAdd, at("l"), op(api.EList, at("x"))), w)
	if err != api.OK || strings.Join(w.asked, " ") != "l l" {
		t.Errorf("Unwind: %d; env is asked for %v", err, w.asked)
	}
	unwound.Project([]string{"x2"})
	holds(t, "Unwind", unwound, table("x2", "8", "9", "1", "8", "9", "-"), 0, 1, 2, 3, 4, 5)
	w = aWorld()
	b.Filter(api.LangS, op(api.EAnd, exists(api.PJoin), op(api.EOr, op(api.EEq, at("x"), at("y")), op(api.EIsNull, at("x")))), w)
	holds(t, "Filter", b, table("x n e", "- (2) [-,7,-,-,T,F]"), 1)
	if got := strings.Join(w.asked, " "); got != "plan 5 y plan 5 y" {
		t.Errorf("Filter: env is asked for %q", got)
	}
	b.Project([]string{"n"})
	b.Extend(api.LangC, "was", at("x"), aWorld())
	holds(t, "a variable that was dropped is env's", b, table("n was", "(2) 'env's'"), 1)
}

// TestCut: P12.3.
func TestCut(t *testing.T) {
	all := table("x y")
	for i := range 2*api.MaxBatch + 5 {
		all.Rows = append(all.Rows, row(num(int64(i)), [...]api.Value{none, text("t"), list(num(1))}[i%3]))
	}
	for _, n := range []int{0, 1, 2, 6, 7, 64, 65, api.MaxBatch - 1, api.MaxBatch, api.MaxBatch + 1, 2*api.MaxBatch + 5} {
		for _, size := range []int{1, 2, 3, 7, 64, api.MaxBatch - 1, api.MaxBatch} {
			part := api.Table{Vars: all.Vars, Rows: all.Rows[:n]}
			l, err := Cut(part, size)
			if err != api.OK || len(l) != (n+size-1)/size {
				t.Fatalf("Cut of %d rows by %d: %d batches, %d", n, size, len(l), err)
			}
			for i, b := range l {
				rows := part.Rows[i*size : min(n, (i+1)*size)]
				if b.Len() != len(rows) || !slices.Equal(b.Chosen(), upTo(len(rows))) {
					t.Fatalf("Cut of %d rows by %d: batch %d has %d rows, %v", n, size, i, b.Len(), b.Chosen())
				}
				if n <= api.MaxBatch {
					is(t, fmt.Sprintf("batch %d of %d rows by %d", i, n, size), b.Table(), api.Table{Vars: all.Vars, Rows: rows})
				}
			}
			is(t, fmt.Sprintf("Paste of Cut of %d rows by %d", n, size), Paste(all.Vars, l), part)
		}
	}
	bare, err := Cut(table("", "", "", ""), 2)
	if err != api.OK || len(bare) != 2 {
		t.Fatalf("Cut of rows without cells: %d, %d", len(bare), err)
	}
	is(t, "rows without cells", bare[0].Table(), table("", "", ""))
	is(t, "rows without cells", bare[1].Table(), table("", ""))
	for _, size := range []int{0, -1, api.MaxBatch + 1, math.MinInt, math.MaxInt, 1 << 32} {
		for _, c := range []api.Table{{}, table("x", "1")} {
			if l, err := Cut(c, size); l != nil || err != api.ErrArg {
				t.Errorf("Cut by %d: %v, %d; want ErrArg", size, l, err)
			}
		}
	}
	for i, bad := range badTables() {
		if l, err := Cut(bad, 1); l != nil || err != api.ErrArg {
			t.Errorf("Cut of table %d, which may not be: %v, %d", i, l, err)
		}
	}
}

// TestPaste: P12.3: the chosen rows of all, under other variables, too.
func TestPaste(t *testing.T) {
	a, b := of(t, table("x y", "1 2", "3 4", "5 -"), 0, 2), of(t, table("z y", "'a' 'b'", "- 'c'"))
	none, bare := of(t, table("x y z")), of(t, table("", "", ""))
	for _, c := range []struct {
		vars string
		l    []*Batch
		want api.Table
	}{
		{"x y", nil, table("x y")}, {"", nil, api.Table{}}, {"x", []*Batch{nil}, table("x")}, {"x y", []*Batch{a}, table("x y", "1 2", "5 -")},
		{"x y z", []*Batch{a, b}, table("x y z", "1 2 -", "5 - -", "- 'b' 'a'", "- 'c' -")}, {"y", []*Batch{b, nil, a, nil}, table("y", "'b'", "'c'", "2", "-")},
		{"y x", []*Batch{a, none, a, a}, table("y x", "2 1", "- 5", "2 1", "- 5", "2 1", "- 5")}, {"", []*Batch{a, bare}, table("", "", "", "", "")}, {"n z", []*Batch{bare, b, none}, table("n z", "- -", "- -", "- 'a'", "- -")},
	} {
		is(t, "Paste under "+c.vars, Paste(strings.Fields(c.vars), c.l), c.want)
	}
	holds(t, "what was pasted", a, table("x y", "1 2", "5 -"), 0, 2)
	most := names(api.MaxVars, "v")
	is(t, "Paste under MaxVars", Paste(most, []*Batch{none}), api.Table{Vars: most})
	for _, bad := range [][]string{{"x", "x"}, {""}, {"1"}, {"x", "a b"}, {strings.Repeat("n", 65)}, names(api.MaxVars+1, "v")} {
		got := Paste(bad, []*Batch{a, b})
		if len(got.Vars) > 0 || len(got.Rows) > 0 {
			t.Errorf("Paste under %.9q: %s; want the zero table", bad, short(show(got)))
		}
	}
}
