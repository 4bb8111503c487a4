package rows

import (
	"fmt"
	"math"
	"reflect"
	"slices"
	"strconv"
	"strings"
	"testing"

	"diptych/api"
	"diptych/value"
)

var none api.Value

func whole(n int64) api.Value    { return api.Value{Kind: api.KInt, Int: n} }
func exact(s string) api.Value   { return api.Value{Kind: api.KDec, Text: s} }
func text(s string) api.Value    { return api.Value{Kind: api.KText, Text: s} }
func truth(b bool) api.Value     { return api.Value{Kind: api.KBool, Bool: b} }
func iri(s string) api.Value     { return api.Value{Kind: api.KIri, Text: s} }
func blank(s string) api.Value   { return api.Value{Kind: api.KBlank, Text: s} }
func lit(s, of string) api.Value { return api.Value{Kind: api.KLit, Text: s, Extra: of} }
func node(n int64) api.Value     { return api.Value{Kind: api.KNode, Int: n} }
func edge(n int64) api.Value     { return api.Value{Kind: api.KEdge, Int: n} }
func several(l ...api.Value) api.Value {
	return api.Value{Kind: api.KList, List: l}
}

func row(l ...api.Value) []api.Value { return l }

// cell reads a value: - none; T, F a bool; 'a' a text; <a> an IRI; with a point a decimal; else an int.
func cell(s string) api.Value {
	switch {
	case s == "-":
		return none
	case s == "T" || s == "F":
		return truth(s == "T")
	case s[0] == '\'':
		return text(s[1 : len(s)-1])
	case s[0] == '<':
		return iri(s[1 : len(s)-1])
	case strings.Contains(s, "."):
		return exact(s)
	}
	n, err := strconv.ParseInt(s, 10, 64)
	if err != nil {
		panic(s)
	}
	return whole(n)
}

// table reads a table: variables, and a text of cells for each row.
func table(vars string, rows ...string) api.Table {
	t := api.Table{Vars: strings.Fields(vars)}
	for _, r := range rows {
		var cells []api.Value
		for _, s := range strings.Fields(r) {
			cells = append(cells, cell(s))
		}
		t.Rows = append(t.Rows, cells)
	}
	return t
}

// show tells a table in one line; nil and empty lists are one in it.
func show(t api.Table) string {
	var b strings.Builder
	b.WriteString(strings.Join(t.Vars, " "))
	for _, r := range t.Rows {
		b.WriteString(" |")
		for _, v := range r {
			b.WriteString(" " + fmt.Sprintf("%d%q%q", v.Kind, value.Text(v), v.Extra))
		}
	}
	return b.String()
}

func short(s string) string { return s[:min(len(s), 300)] }

func is(t *testing.T, what string, got, want api.Table) {
	t.Helper()
	if g, w := show(got), show(want); g != w {
		t.Errorf("%s: %s; want %s", what, short(g), short(w))
	}
}

func isZero(t *testing.T, what string, got api.Table) {
	t.Helper()
	if len(got.Vars) != 0 || len(got.Rows) != 0 {
		t.Errorf("%s: %s; want the zero table", what, short(show(got)))
	}
}

// names tells so many names, all unlike.
func names(n int, ahead string) []string {
	var l []string
	for i := range n {
		l = append(l, ahead+strconv.Itoa(i))
	}
	return l
}

// cloned tells v in memory of its own, lists and all.
func cloned[T any](v T) T {
	return deepCopy(reflect.ValueOf(v)).Interface().(T)
}

func deepCopy(v reflect.Value) reflect.Value {
	c := reflect.New(v.Type()).Elem()
	switch v.Kind() {
	case reflect.Struct:
		for i := range v.NumField() {
			c.Field(i).Set(deepCopy(v.Field(i)))
		}
	case reflect.Slice:
		for i := range v.Len() {
			c.Set(reflect.Append(c, deepCopy(v.Index(i))))
		}
	case reflect.String:
		c.SetString(strings.Clone(v.String()))
	default:
		c.Set(v)
	}
	return c
}

// deep tells a list in so many lists.
func deep(lists int) api.Value {
	v := several()
	for range lists - 1 {
		v = several(v)
	}
	return v
}

// values are some of every kind, the equal ones among them that are not the same.
func values() []api.Value {
	return []api.Value{none, truth(false), truth(true), whole(-1), whole(0), whole(3), exact("3.0"), exact("3.5"), exact("0.0"), text(""), text("3"), text("a"), text("a\x00"), several(), several(none), several(whole(3)), several(exact("3.0")), several(several(text("a")), text("b")), node(3), edge(3), iri("a"), blank("a"), lit("a", "@en"), lit("a", "@de"), lit("", "d"), whole(math.MaxInt64), whole(math.MinInt64)}
}

// badValues are values that may not be.
func badValues() []api.Value {
	return []api.Value{{Kind: -1}, {Kind: api.KLit + 1}, {Kind: api.KNull, Int: 1}, {Kind: api.KNull, Text: "a"}, exact("3"), iri(""), iri("a b"), blank("1"), node(-1), edge(-1), lit("a", ""), {Kind: api.KInt, Bool: true}, text(strings.Repeat("a", api.MaxText+1)), several(exact("x")), several(make([]api.Value, api.MaxParts+1)...), deep(api.MaxDeep + 1)}
}

// badVars are lists that are no table's variables.
func badVars() [][]string {
	return [][]string{{""}, {"x", "x"}, {"x", "y", "z", "x"}, {"1"}, {"x y"}, {"?x"}, {"é"}, {"x", "-"}, {"x\x00"}, {strings.Repeat("a", 65)}, names(api.MaxVars+1, "v")}
}

// badTables are tables that may not be.
func badTables() []api.Table {
	l := []api.Table{
		{Vars: []string{"x"}, Rows: [][]api.Value{nil}},
		{Vars: []string{"x"}, Rows: [][]api.Value{row(none), row(none, none)}},
		{Vars: []string{"x", "y"}, Rows: [][]api.Value{row(none, none), row(none)}},
		{Rows: [][]api.Value{{}, row(none)}},
	}
	for _, vars := range badVars() {
		l = append(l, api.Table{Vars: vars}, api.Table{Vars: vars, Rows: [][]api.Value{make([]api.Value, len(vars))}})
	}
	for _, v := range badValues() {
		l = append(l, api.Table{Vars: []string{"x", "y"}, Rows: [][]api.Value{row(none, none), row(none, v)}})
	}
	return l
}

// TestCheck: P9.1.
func TestCheck(t *testing.T) {
	long := strings.Repeat("a", 64)
	for i, c := range []api.Table{
		{}, {Vars: []string{}, Rows: [][]api.Value{}}, {Rows: [][]api.Value{nil, {}, nil}}, table("x"), table("x y", "1 -", "- -", "1 -"), table("_ a1 A " + long), {Vars: names(api.MaxVars, "v")}, {Vars: names(api.MaxVars, "v"), Rows: [][]api.Value{make([]api.Value, api.MaxVars)}},
		{Vars: []string{"x"}, Rows: [][]api.Value{row(deep(api.MaxDeep)), row(several(make([]api.Value, api.MaxParts)...)), row(text(strings.Repeat("a", api.MaxText)))}},
	} {
		if !Check(c) {
			t.Errorf("%d: %s may not be", i, short(show(c)))
		}
	}
	for i, v := range values() {
		if !Check(api.Table{Vars: []string{"x"}, Rows: [][]api.Value{row(v)}}) {
			t.Errorf("value %d may not be", i)
		}
	}
	for i, c := range badTables() {
		if Check(c) {
			t.Errorf("bad %d: %s may be", i, short(show(c)))
		}
	}
}

// TestCompare: P9.1.
func TestCompare(t *testing.T) {
	one, two := whole(1), whole(2)
	for i, c := range []struct {
		a, b []api.Value
		c, s int
	}{
		{nil, nil, 0, 0}, {nil, row(), 0, 0}, {nil, row(none), -1, -1}, {row(one), row(one), 0, 0}, {row(one), row(two), -1, -1}, {row(two), row(one, one), 1, 1}, {row(one), row(one, none), -1, -1}, {row(one, two), row(one, one), 1, 1}, {row(one, two), row(two, one), -1, -1},
		{row(none), row(one), 1, -1}, {row(one, none), row(one, text("a")), 1, -1}, {row(one), row(exact("1.0")), -1, -1}, {row(exact("1.0"), one), row(one, two), 1, 1}, {row(iri("a")), row(text("a")), -1, -1}, {row(several(none)), row(several(one)), 1, -1},
		{row(api.Value{Kind: 77}), row(one), 1, 1}, {row(api.Value{Kind: 77}), row(none), 1, 1}, {row(api.Value{Kind: 77}), row(api.Value{Kind: 78}), 0, 0}, {row(exact("x")), row(whole(0)), 1, 1},
	} {
		for lang, want := range map[int]int{api.LangC: c.c, api.LangS: c.s, 2: c.c, -1: c.c, math.MinInt64: c.c} {
			if got, turned := Compare(lang, c.a, c.b), Compare(lang, c.b, c.a); got != want || turned != -want {
				t.Errorf("%d, language %d: %d, and the other way round %d; want %d", i, lang, got, turned, want)
			}
		}
	}
}

// TestCompareAsOrder: P9.1: rows of one cell are ordered as their values.
func TestCompareAsOrder(t *testing.T) {
	for _, lang := range []int{api.LangC, api.LangS} {
		for _, v := range append(values(), badValues()...) {
			for _, w := range append(values(), badValues()...) {
				want := value.Order(lang, v, w)
				if got := Compare(lang, row(v), row(w)); got != want {
					t.Fatalf("language %d: %v, %v: %d; want %d", lang, v, w, got, want)
				}
				if got := Compare(lang, row(none, v), row(none, w, none)); want != 0 && got != want || want == 0 && got != -1 {
					t.Fatalf("language %d, in the second cell: %v, %v: %d", lang, v, w, got)
				}
			}
		}
	}
}

// TestCanon: P9.1.
func TestCanon(t *testing.T) {
	for i, c := range []struct {
		t, c, s api.Table
	}{
		{api.Table{}, api.Table{}, api.Table{}},
		{table("b a"), table("b a"), table("b a")},
		{table("", "", ""), table("", "", ""), table("", "", "")},
		{table("x y", "2 1", "- 5", "1 -", "1 2", "1.0 0", "2 1", "'a' 9"), table("x y", "'a' 9", "1 2", "1 -", "1.0 0", "2 1", "2 1", "- 5"), table("x y", "- 5", "'a' 9", "1 -", "1 2", "1.0 0", "2 1", "2 1")},
	} {
		is(t, fmt.Sprint("C ", i), Canon(api.LangC, c.t), c.c)
		is(t, fmt.Sprint("neither ", i), Canon(5, c.t), c.c)
		is(t, fmt.Sprint("S ", i), Canon(api.LangS, c.t), c.s)
	}
}

// TestSame: P9.1.
func TestSame(t *testing.T) {
	for i, c := range []struct {
		a, b api.Table
		want bool
	}{
		{api.Table{}, api.Table{}, true}, {table("x"), table("x"), true}, {table("x"), table("y"), false}, {table("x"), table("x y"), false}, {table("x y"), table("y x"), false}, {table("x y", "1 1"), table("y x", "1 1"), false}, {table("x"), api.Table{}, false},
		{table("x", "1", "2", "1"), table("x", "2", "1", "1"), true}, {table("x", "1", "2", "1"), table("x", "2", "1", "2"), false}, {table("x", "1", "2"), table("x", "1", "2", "1"), false}, {table("x", "1", "2", "1"), table("x", "1", "2"), false}, {table("x", "1", "1"), table("x", "1"), false}, {table("x", "1"), table("x"), false},
		{table("x", "1"), table("x", "1.0"), false}, {table("x", "1"), table("x", "-"), false}, {table("x", "-"), table("x", "-"), true}, {table("x y", "1 2"), table("x y", "2 1"), false}, {table("", "", ""), table("", "", ""), true}, {table("", "", ""), table("", ""), false},
		{table("x y", "'a' 'bc'"), table("x y", "'ab' 'c'"), false}, {table("x", "'1'"), table("x", "1"), false},
	} {
		if got, turned := Same(c.a, c.b), Same(c.b, c.a); got != c.want || turned != c.want {
			t.Errorf("%d: %v, %v; want %v", i, got, turned, c.want)
		}
	}
	for i, v := range values() {
		for j, w := range values() {
			a := api.Table{Vars: []string{"x"}, Rows: [][]api.Value{row(v)}}
			b := api.Table{Vars: []string{"x"}, Rows: [][]api.Value{row(w)}}
			if Same(a, b) != (i == j) {
				t.Errorf("%v, %v: %v", v, w, Same(a, b))
			}
		}
	}
	for i, bad := range badTables() {
		if Same(bad, bad) || Same(bad, api.Table{}) || Same(api.Table{}, bad) {
			t.Errorf("bad %d is the same as something", i)
		}
	}
	for i, v := range badValues() {
		good, bad := table("x", "-"), api.Table{Vars: []string{"x"}, Rows: [][]api.Value{row(none, v)}}
		if Same(good, bad) || Same(bad, good) {
			t.Errorf("a table with bad value %d is the same as one without it", i)
		}
	}
}

// TestFits: P9.2.
func TestFits(t *testing.T) {
	a := table("x y z", "1 2 3", "1 - 3", "- - -", "1 2.0 3")
	b := table("w z y", "9 3 2", "1 - 2", "9 4 2", "- - -", "9 3 2.0")
	want := []string{"TTFTF", "TTFTT", "TTTTT", "FFFTT"}
	for i, line := range want {
		for j, fits := range line {
			if Fits(a, b, i, j) != (fits == 'T') || Fits(b, a, j, i) != (fits == 'T') {
				t.Errorf("rows %d, %d: %v, %v", i, j, Fits(a, b, i, j), Fits(b, a, j, i))
			}
		}
	}
	for _, at := range [][2]int{{-1, 0}, {0, -1}, {4, 0}, {0, 5}, {math.MaxInt64, 0}, {0, math.MinInt64}, {-1, -1}} {
		if Fits(a, b, at[0], at[1]) {
			t.Errorf("rows %v that there are not fit", at)
		}
	}
	if Fits(table("x"), table("x"), 0, 0) || !Fits(table("", ""), table("", ""), 0, 0) || !Fits(table("x", "1"), table("y", "2"), 0, 0) || !Fits(table("x", "1"), table("", ""), 0, 0) {
		t.Error("tables without rows, and without variables of both")
	}
	for i, bad := range badTables() {
		if Fits(bad, table("", ""), 0, 0) || Fits(table("", ""), bad, 0, 0) {
			t.Errorf("a row of bad %d fits", i)
		}
	}
	wide := api.Table{Vars: names(api.MaxVars, "v"), Rows: [][]api.Value{make([]api.Value, api.MaxVars)}}
	other := api.Table{Vars: names(api.MaxVars, "w"), Rows: wide.Rows}
	if !Fits(wide, other, 0, 0) {
		t.Error("rows of more than MaxVars variables together don't fit")
	}
}

// TestFitsSame: P9.2: cells fit that are the same, or of which one is unbound.
func TestFitsSame(t *testing.T) {
	for i, v := range values() {
		for j, w := range values() {
			a, b := api.Table{Vars: []string{"x"}, Rows: [][]api.Value{row(v)}}, api.Table{Vars: []string{"x"}, Rows: [][]api.Value{row(w)}}
			if want := i == j || i == 0 || j == 0; Fits(a, b, 0, 0) != want || (len(Join(a, b).Rows) == 1) != want {
				t.Errorf("%v, %v: %v, joined %d; want %v", v, w, Fits(a, b, 0, 0), len(Join(a, b).Rows), want)
			}
		}
	}
}

// TestJoin: P9.3.
func TestJoin(t *testing.T) {
	for i, c := range []struct {
		a, b, want api.Table
	}{
		{table("x", "1", "-"), table("x y", "1 2", "3 4"), table("x y", "1 2", "1 2", "3 4")},
		{table("x", "1", "2"), table("y", "3", "4"), table("x y", "1 3", "1 4", "2 3", "2 4")},
		{table("x y", "1 2", "1 3", "1 2"), table("z y", "5 2", "6 9", "7 2"), table("x y z", "1 2 5", "1 2 7", "1 2 5", "1 2 7")},
		{table("x y", "1 2"), table("y x", "2 1", "1 2", "- 1", "2 -", "- -", "3 -", "2 1"), table("x y", "1 2", "1 2", "1 2", "1 2", "1 2")},
		{table("x y", "1 -", "- 2", "- -"), table("y x", "2 1", "- -", "4 1"), table("x y", "1 2", "1 -", "1 4", "1 2", "- 2", "1 2", "- -", "1 4")},
		{table("x", "1"), table("x", "1.0"), table("x")},
		{table("x z", "1 -"), table("z y", "- 2"), table("x z y", "1 - 2")},
		{table("", "", ""), table("", "", "", ""), table("", "", "", "", "", "", "")},
		{table("", "", ""), table("x", "1", "2"), table("x", "1", "2", "1", "2")},
		{table("x"), table("y x", "1 2"), table("x y")}, {table("x", "1"), table("y x"), table("x y")}, {api.Table{}, table("y"), table("y")},
		{table("x y", "'a' 'bc'"), table("x y", "'ab' 'c'"), table("x y")},
		// rows of the second that have unbound cells stand in their places
		{table("x", "1", "2"), table("x y", "- 1", "1 2", "2 3", "- 4", "1 5"), table("x y", "1 1", "1 2", "1 4", "1 5", "2 1", "2 3", "2 4")},
	} {
		is(t, fmt.Sprint(i), Join(c.a, c.b), c.want)
	}
}

// TestUnion: P9.3.
func TestUnion(t *testing.T) {
	for i, c := range []struct {
		a, b, want api.Table
	}{
		{table("x y", "1 2", "3 -"), table("y z", "5 6", "2 1", "5 6"), table("x y z", "1 2 -", "3 - -", "- 5 6", "- 2 1", "- 5 6")},
		{table("x y", "2 1", "1 2"), table("y x", "2 1"), table("x y", "2 1", "1 2", "1 2")},
		{table("x", "1"), table("", "", ""), table("x", "1", "-", "-")}, {table("", ""), table("x", "1"), table("x", "-", "1")}, {table("", ""), table("", ""), table("", "", "")},
		{table("x"), table("z y"), table("x z y")}, {api.Table{}, api.Table{}, api.Table{}},
	} {
		is(t, fmt.Sprint(i), Union(c.a, c.b), c.want)
	}
}

// TestMinus: P9.3.
func TestMinus(t *testing.T) {
	for i, c := range []struct {
		a, b, want api.Table
	}{
		{table("x y", "1 2", "3 4", "1 2", "1 5"), table("x", "1", "7"), table("x y", "3 4")},
		{table("x y", "1 2", "3 4"), table("y x", "2 1", "4 5"), table("x y", "3 4")},
		{table("x", "2", "1", "2"), table("y", "1"), table("x", "2", "1", "2")}, {table("x", "2", "1"), table("", ""), table("x", "2", "1")}, {table("", "", ""), table("", ""), table("", "", "")}, {table("", ""), table("x", "1"), table("", "")},
		{table("x", "1"), table("x"), table("x", "1")}, {table("x"), table("x", "1"), table("x")},
		// what is unbound fits, but takes nothing out by itself
		{table("x", "1", "-"), table("x", "-"), table("x", "1", "-")}, {table("x", "-"), table("x", "1"), table("x", "-")},
		{table("x y", "1 -", "- 2", "- -", "1 2"), table("x y", "1 2"), table("x y", "- -")},
		{table("x y", "1 2", "1 3", "4 2", "- 2"), table("x y", "1 -"), table("x y", "4 2", "- 2")},
		{table("x y", "1 -"), table("x y", "- 2"), table("x y", "1 -")},
		{table("x y", "1 -"), table("x y", "- 2", "1 9"), table("x y")},
		{table("x y", "1 2"), table("x y", "1 3", "- 3", "2 -", "- -"), table("x y", "1 2")},
		{table("x", "1"), table("x", "1.0"), table("x", "1")},
	} {
		is(t, fmt.Sprint(i), Minus(c.a, c.b), c.want)
	}
	a, b := api.Table{Vars: names(api.MaxVars, "v"), Rows: [][]api.Value{make([]api.Value, api.MaxVars)}}, api.Table{Vars: names(api.MaxVars, "w")}
	is(t, "of many variables", Minus(a, b), a)
}

// TestProject: P9.4.
func TestProject(t *testing.T) {
	a := table("x y", "1 2", "- 3", "1 2")
	for i, c := range []struct {
		a    api.Table
		vars string
		want api.Table
	}{
		{a, "x y", a}, {a, "y x", table("y x", "2 1", "3 -", "2 1")}, {a, "y", table("y", "2", "3", "2")}, {a, "z y q", table("z y q", "- 2 -", "- 3 -", "- 2 -")}, {a, "", table("", "", "", "")}, {table("", ""), "x", table("x", "-")}, {table("x"), "y", table("y")}, {api.Table{}, "", api.Table{}},
	} {
		is(t, fmt.Sprint(i), Project(c.a, strings.Fields(c.vars)), c.want)
	}
	is(t, "no variables", Project(a, nil), table("", "", "", ""))
	most := names(api.MaxVars, "v")
	is(t, "most variables", Project(table("q", "1"), most), api.Table{Vars: most, Rows: [][]api.Value{make([]api.Value, api.MaxVars)}})
	for i, vars := range badVars() {
		isZero(t, fmt.Sprint("bad variables ", i), Project(a, vars))
		isZero(t, fmt.Sprint("bad variables, no row ", i), Project(table("x"), vars))
	}
}

// TestDistinct: P9.4.
func TestDistinct(t *testing.T) {
	for i, c := range []struct {
		a, want api.Table
	}{
		{table("x y", "2 1", "1 2", "2 1", "2 -", "2.0 1", "- 2", "2 -", "1 2", "2 1"), table("x y", "2 1", "1 2", "2 -", "2.0 1", "- 2")},
		{table("x", "-", "-"), table("x", "-")}, {table("", "", "", ""), table("", "")}, {table("", ""), table("", "")}, {table("x"), table("x")}, {api.Table{}, api.Table{}},
		{table("x y", "'a' 'bc'", "'ab' 'c'", "'' 'abc'"), table("x y", "'a' 'bc'", "'ab' 'c'", "'' 'abc'")},
	} {
		is(t, fmt.Sprint(i), Distinct(c.a), c.want)
	}
	all := api.Table{Vars: []string{"x"}}
	for _, v := range append(values(), values()...) {
		all.Rows = append(all.Rows, row(v))
	}
	is(t, "of all kinds", Distinct(all), api.Table{Vars: all.Vars, Rows: all.Rows[:len(values())]})
}

// TestRefuses: each call tells the zero table of tables that may not be.
func TestRefuses(t *testing.T) {
	good := []api.Table{{}, table("", ""), table("x", "1"), table("q", "-", "-")}
	for i, bad := range badTables() {
		for lang := range 3 {
			isZero(t, fmt.Sprint("Canon ", i), Canon(lang, bad))
		}
		isZero(t, fmt.Sprint("Distinct ", i), Distinct(bad))
		isZero(t, fmt.Sprint("Project ", i), Project(bad, []string{"x"}))
		isZero(t, fmt.Sprint("Project to none ", i), Project(bad, nil))
		for name, call := range map[string]func(a, b api.Table) api.Table{"Join": Join, "Union": Union, "Minus": Minus} {
			for j, g := range good {
				isZero(t, fmt.Sprint(name, " ", i, " ", j), call(bad, g))
				isZero(t, fmt.Sprint(name, " ", i, " ", j, " behind"), call(g, bad))
			}
			isZero(t, fmt.Sprint(name, " ", i, " of both"), call(bad, bad))
		}
	}
}

// TestMostVars: an answer has at most MaxVars variables.
func TestMostVars(t *testing.T) {
	all := names(api.MaxVars+1, "v")
	over := func(vars []string) api.Table {
		return api.Table{Vars: vars, Rows: [][]api.Value{slices.Repeat(row(whole(7)), len(vars))}}
	}
	for _, c := range [][2][]string{{all[:40], all[40:64]}, {all[:64], all[10:64]}, {all[:64], nil}, {nil, all[1:]}, {all[:1], all[:64]}} {
		a, b := over(c[0]), over(c[1])
		if j, u := Join(a, b), Union(a, b); len(j.Vars) != 64 || len(j.Rows) != 1 || len(u.Vars) != 64 || len(u.Rows) != 2 {
			t.Errorf("%d and %d variables: %s", len(a.Vars), len(b.Vars), short(show(j)))
		}
	}
	for _, c := range [][2][]string{{all[:40], all[40:]}, {all[:64], all[64:]}, {all[64:], all[:64]}, {all[:64], all[1:]}, {all[:64], names(64, "w")}} {
		for _, a := range []api.Table{over(c[0]), {Vars: c[0]}} {
			isZero(t, "Join", Join(a, over(c[1])))
			isZero(t, "Union", Union(a, over(c[1])))
			isZero(t, "Union of no rows", Union(a, api.Table{Vars: c[1]}))
		}
	}
}
