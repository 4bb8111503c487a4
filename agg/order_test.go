package agg

import (
	"fmt"
	"math"
	"slices"
	"strconv"
	"strings"
	"testing"

	"diptych/api"
	"diptych/expr"
	"diptych/rows"
)

// sorted holds Sort of in, and Top of all its rows.
func sorted(t *testing.T, what string, lang int, in api.Table, l []api.Sort, want api.Table) {
	t.Helper()
	got, err := Sort(lang, in, l, aWorld())
	if err != api.OK {
		t.Errorf("%s in %d: %d", what, lang, err)
	}
	is(t, fmt.Sprintf("Sort: %s in %d", what, lang), got, want)
	got, err = Top(lang, in, l, int64(len(in.Rows)), aWorld())
	if err != api.OK {
		t.Errorf("Top: %s in %d: %d", what, lang, err)
	}
	is(t, fmt.Sprintf("Top: %s in %d", what, lang), got, want)
}

// TestSort: P14.1: rows by the first of sorts, equal ones by the next, then by Compare.
func TestSort(t *testing.T) {
	in := table("x y", "2 5", "1 7", "- 7", "2 6", "1 4", "2 5", "0 -")
	sorted(t, "up", api.LangC, in, sorts("x"), table("x y", "0 -", "1 4", "1 7", "2 5", "2 5", "2 6", "- 7"))
	sorted(t, "up", api.LangS, in, sorts("x"), table("x y", "- 7", "0 -", "1 4", "1 7", "2 5", "2 5", "2 6"))
	sorted(t, "up", 7, in, sorts("x"), table("x y", "0 -", "1 4", "1 7", "2 5", "2 5", "2 6", "- 7"))
	sorted(t, "down", api.LangC, in, sorts("-x"), table("x y", "- 7", "2 5", "2 5", "2 6", "1 4", "1 7", "0 -"))
	sorted(t, "down", api.LangS, in, sorts("-x"), table("x y", "2 5", "2 5", "2 6", "1 4", "1 7", "0 -", "- 7"))
	sorted(t, "up, then down", api.LangC, in, sorts("x -y"), table("x y", "0 -", "1 7", "1 4", "2 6", "2 5", "2 5", "- 7"))
	sorted(t, "down, then up", api.LangC, in, sorts("-y x"), table("x y", "0 -", "1 7", "- 7", "2 6", "2 5", "2 5", "1 4"))
	sorted(t, "down twice", api.LangS, in, sorts("-y -x"), table("x y", "1 7", "- 7", "2 6", "2 5", "2 5", "1 4", "0 -"))
	sorted(t, "by Compare alone", api.LangC, in, by(yes), table("x y", "0 -", "1 4", "1 7", "2 5", "2 5", "2 6", "- 7"))
	sorted(t, "by Compare alone, down", api.LangS, in, []api.Sort{{E: yes, Down: true}}, table("x y", "- 7", "0 -", "1 4", "1 7", "2 5", "2 5", "2 6"))
	for _, lang := range langs {
		sorted(t, "Compare's order of columns", lang, table("y x", "2 1", "1 2", "1 1"), by(yes), table("y x", "1 1", "1 2", "2 1"))
		sorted(t, "equal numbers", lang, table("x y", "1.0 'a'", "1 'b'", "1.0 'b'", "1 'a'", "0.9 'c'"), sorts("x y"), table("x y", "0.9 'c'", "1 'a'", "1 'b'", "1.0 'a'", "1.0 'b'"))
		sorted(t, "equal numbers, down", lang, table("x y", "1.0 'a'", "1 'b'", "1.0 'b'", "1 'a'", "0.9 'c'"), sorts("-x y"), table("x y", "1.0 'a'", "1.0 'b'", "1 'a'", "1 'b'", "0.9 'c'"))
		sorted(t, "all kinds", lang, table("x", "2", "T", "'t'", "<i>", "_b", "[1]", "F"), sorts("x"), table("x", "[1]", "_b", "<i>", "'t'", "F", "T", "2"))
		sorted(t, "by an expression", lang, table("x y", "1 5", "2 2", "3 9"), by(op(api.ESub, at("x"), at("y"))), table("x y", "3 9", "1 5", "2 2"))
		sorted(t, "by a variable of env", lang, table("x y", "1 5", "2 2", "3 9"), by(op(api.EMul, at("x"), op(api.ESub, lit(num(0)), at("w")))), table("x y", "3 9", "2 2", "1 5"))
		sorted(t, "by a plan", lang, table("x", "2", "1"), by(exists(api.PUnit)), table("x", "1", "2"))
		sorted(t, "no rows", lang, table("x y"), sorts("x"), table("x y"))
		sorted(t, "no variables", lang, table("", "", ""), by(yes), table("", "", ""))
		sorted(t, "a row", lang, table("x y", "1 5"), sorts("-y"), table("x y", "1 5"))
		sorted(t, "as many sorts as there may be", lang, table("x y", "1 5", "2 2", "1 1"), append(by(slices.Repeat([]api.Expr{yes}, api.MaxVars-1)...), sorts("-y")...), table("x y", "1 5", "2 2", "1 1"))
		sorted(t, "unbound variables of no table", lang, table("x", "2", "1"), sorts("-q x"), table("x", "1", "2"))
	}
	w := aWorld()
	if _, err := Sort(api.LangC, table("x y", "- 1", "- -"), by(op(api.EIsNull, at("x")), op(api.EIsNull, at("z")), at("y")), w); err != api.OK || !slices.Equal(w.asked, []string{"z", "z"}) {
		t.Errorf("%d, asked for %v; want z, z", err, w.asked)
	}
}

// TestSortErrs: P14.1: in C the first error, row by row; in S what errs is unbound.
func TestSortErrs(t *testing.T) {
	for _, c := range []struct {
		what string
		in   api.Table
		l    []api.Sort
		want api.Errno
		inS  api.Table
	}{
		{"an error", table("x y", "2 1", "0 2", "1 1"), by(over(at("x"))), api.ErrZero, table("x y", "0 2", "1 1", "2 1")},
		{"of env", table("x", "2", "1"), by(exists(api.PMinus)), api.ErrBudget, table("x", "1", "2")},
		{"ErrArg of env", table("x", "2", "1"), by(exists(api.PUnion)), api.ErrArg, table("x", "1", "2")},
		{"row by row", table("x y", "6 't'", "0 6"), by(over(at("x")), over(at("y"))), api.ErrType, table("x y", "0 6", "6 't'")},
		{"row by row, the other way round", table("x y", "0 6", "6 't'"), by(over(at("y")), over(at("x"))), api.ErrZero, table("x y", "6 't'", "0 6")},
		{"in a row one by one", table("x y", "0 't'"), by(over(at("x")), over(at("y"))), api.ErrZero, table("x y", "0 't'")},
		{"in a row one by one, the other way round", table("x y", "0 't'"), by(over(at("y")), over(at("x"))), api.ErrType, table("x y", "0 't'")},
		{"in a row that would be the last one", table("x y", "1 6", "2 6", "9 0"), by(at("x"), over(at("y"))), api.ErrZero, table("x y", "1 6", "2 6", "9 0")},
		{"no rows, no error", table("x"), by(over(lit(num(0)))), api.OK, table("x")},
	} {
		for _, lang := range []int{api.LangC, -1, 7} {
			got, err := Sort(lang, c.in, c.l, aWorld())
			if err != c.want || err != api.OK && !isZero(got) {
				t.Errorf("Sort: %s in %d: %s, %d; want %d", c.what, lang, show(got), err, c.want)
			}
			for n := range int64(4) {
				if got, err := Top(lang, c.in, c.l, n, aWorld()); err != c.want || err != api.OK && !isZero(got) {
					t.Errorf("Top: %s in %d: %s, %d; want %d", c.what, lang, show(got), err, c.want)
				}
			}
		}
		sorted(t, c.what, api.LangS, c.in, c.l, c.inS)
	}
}

// TestSlice: P14.1: the rows behind the first skip, of these the first limit.
func TestSlice(t *testing.T) {
	in := table("x", "3", "1", "-", "1", "2")
	for _, c := range []struct {
		skip, limit int64
		want        string
	}{
		{0, -1, "3 1 - 1 2"}, {-1, -1, "3 1 - 1 2"}, {0, 0, ""}, {-1, 0, ""}, {0, 1, "3"}, {-1, 2, "3 1"}, {1, 2, "1 -"}, {2, -1, "- 1 2"}, {2, 0, ""}, {4, 1, "2"}, {4, 9, "2"}, {5, 1, ""}, {5, -1, ""}, {6, 2, ""},
		{0, 5, "3 1 - 1 2"}, {0, 4, "3 1 - 1"}, {0, 6, "3 1 - 1 2"}, {3, 2, "1 2"}, {3, 3, "1 2"}, {3, 1, "1"}, {math.MaxInt64, math.MaxInt64, ""}, {0, math.MaxInt64, "3 1 - 1 2"}, {1, math.MaxInt64, "1 - 1 2"}, {math.MinInt64, math.MinInt64, "3 1 - 1 2"}, {-7, 1, "3"}, {1, -7, "1 - 1 2"}, {1 << 32, -1, ""}, {0, 1 << 32, "3 1 - 1 2"},
	} {
		is(t, fmt.Sprintf("Slice %d %d", c.skip, c.limit), Slice(in, c.skip, c.limit), table("x", strings.Fields(c.want)...))
	}
	is(t, "no rows", Slice(table("x y"), 1, 1), table("x y"))
	is(t, "no variables", Slice(table("", "", "", ""), 1, 1), table("", ""))
	for i, bad := range badTables() {
		for _, l := range [][2]int64{{-1, -1}, {0, 0}, {1, 1}, {9, 9}} {
			if told := Slice(bad, l[0], l[1]); !isZero(told) {
				t.Errorf("table %d, which may not be: %s", i, short(show(told)))
			}
		}
	}
}

// TestTop: P14.1: the first n rows of Sort.
func TestTop(t *testing.T) {
	in := table("x y", "2 5", "1 7", "- 7", "2 6", "1 4", "2 5", "0 -")
	all := table("x y", "0 -", "1 7", "1 4", "2 6", "2 5", "2 5", "- 7")
	for _, n := range []int64{0, 1, 2, 3, 4, 5, 6, 7, 8, 1 << 32, 1 << 62, math.MaxInt64} {
		got, err := Top(api.LangC, in, sorts("x -y"), n, aWorld())
		if err != api.OK {
			t.Errorf("%d: %d", n, err)
		}
		is(t, fmt.Sprint("the first ", n), got, api.Table{Vars: all.Vars, Rows: all.Rows[:min(n, 7)]})
	}
	got, err := Top(api.LangS, in, sorts("-x y"), 3, aWorld())
	if err != api.OK {
		t.Error(err)
	}
	is(t, "the first 3 in S", got, table("x y", "2 5", "2 5", "2 6"))
	got, _ = Top(api.LangS, in, sorts("x"), 2, aWorld())
	is(t, "the first 2 in S", got, table("x y", "- 7", "0 -"))
	for _, lang := range langs {
		got, err := Top(lang, table("x"), sorts("x"), 3, aWorld())
		if err != api.OK {
			t.Error(err)
		}
		is(t, "no rows", got, table("x"))
		for _, n := range []int64{-1, -2, math.MinInt64} {
			for _, in := range []api.Table{in, table("x")} {
				if told, err := Top(lang, in, sorts("x"), n, aWorld()); err != api.ErrArg || !isZero(told) {
					t.Errorf("%d rows in %d: %s, %d; want ErrArg", n, lang, show(told), err)
				}
			}
		}
	}
	if _, err := Top(api.LangC, table("x", "0"), by(over(at("x"))), -1, aWorld()); err != api.ErrArg {
		t.Errorf("ErrArg goes ahead: %d", err)
	}
}

// TestSortRefuses: P14.1: ErrArg.
func TestSortRefuses(t *testing.T) {
	refused := func(what string, lang int, in api.Table, l []api.Sort, env expr.Env) {
		t.Helper()
		if told, err := Sort(lang, in, l, env); err != api.ErrArg || !isZero(told) {
			t.Errorf("Sort: %s in %d: %s, %d; want ErrArg", what, lang, short(show(told)), err)
		}
		for _, n := range []int64{0, 1, 100} {
			if told, err := Top(lang, in, l, n, env); err != api.ErrArg || !isZero(told) {
				t.Errorf("Top: %s in %d: %s, %d; want ErrArg", what, lang, short(show(told)), err)
			}
		}
	}
	count := api.Expr{Op: api.EAgg, Text: "count"}
	for _, lang := range langs {
		for _, in := range []api.Table{table("x y", "1 2"), table("x y"), table("x y", "- 't'", "0 0")} {
			refused("no Env", lang, in, sorts("x"), nil)
			refused("no sorts", lang, in, nil, aWorld())
			refused("no sorts", lang, in, []api.Sort{}, aWorld())
			refused("too many sorts", lang, in, by(slices.Repeat([]api.Expr{at("x")}, api.MaxVars+1)...), aWorld())
			for i, e := range []api.Expr{{}, {Op: 99}, op(api.ENot), op(api.EAnd, yes), at("1"), at(""), lit(dec("1")), count, op(api.ENot, count), op(api.EAdd, at("x"), op(api.ENeg, count)), exists(api.PNone), {Op: api.ELit, Text: "t"}, {Op: api.ECall, Text: "sqrt", Args: []api.Expr{yes}}} {
				refused("sort "+strconv.Itoa(i), lang, in, by(e), aWorld())
				refused("second sort "+strconv.Itoa(i), lang, in, by(at("x"), e), aWorld())
				refused("first sort "+strconv.Itoa(i), lang, in, by(e, at("x")), aWorld())
			}
		}
		for i, bad := range badTables() {
			refused("table "+strconv.Itoa(i), lang, bad, by(yes), aWorld())
		}
	}
	good := table("x", "1")
	refused("a list", api.LangS, good, by(op(api.EList)), aWorld())
	refused("isiri", api.LangC, good, by(api.Expr{Op: api.ECall, Text: "isiri", Args: []api.Expr{yes}}), aWorld())
	deep := yes
	for range api.MaxDeep {
		deep = op(api.ENot, deep)
	}
	refused("a sort that is too deep", api.LangC, good, by(deep), aWorld())
	sorted(t, "a sort as deep as one may be", api.LangC, good, by(deep.Args[0]), good)
}

// TestHeap: items in all orders, as many as there are, fewer and none.
func TestHeap(t *testing.T) {
	l := []int{3, 1, 4, 1, 5, 9, 2, 6}
	compare := func(a, b int) int { return a - b }
	var permute func(l []int, from int)
	permute = func(l []int, from int) {
		if from == len(l) {
			for most := range len(l) + 2 {
				h := heap[int]{most: most, compare: compare}
				for _, n := range l {
					h.put(n)
					for i := range h.items {
						if i > 0 && h.items[(i-1)/2] < h.items[i] {
							t.Fatalf("%v of %v: %d lies below one that is ahead of it", h.items, l, h.items[i])
						}
					}
				}
				want := slices.Sorted(slices.Values(l))[:min(most, len(l))]
				if got := h.sorted(); !slices.Equal(got, want) || len(h.items) != len(want) {
					t.Fatalf("%d of %v: %v; want %v", most, l, got, want)
				}
			}
			return
		}
		for i := from; i < len(l); i++ {
			l[from], l[i] = l[i], l[from]
			permute(l, from+1)
			l[from], l[i] = l[i], l[from]
		}
	}
	permute(l[:7], 0)
	permute([]int{1, 1, 1, 0}, 0)
	many := heap[int]{most: 100, compare: compare}
	for i := range 5000 {
		many.put((i*7919 + 13) % 5000)
	}
	for i, n := range many.sorted() {
		if i != n {
			t.Fatalf("item %d of many: %d", i, n)
		}
	}
}

// TestLongTexts: P14.1: keys and arguments may be texts as long as a value's; longer ones of an expression are ordered as texts.
func TestLongTexts(t *testing.T) {
	long := strings.Repeat("l", api.MaxText)
	in := api.Table{Vars: []string{"x"}, Rows: [][]api.Value{{text(long)}, {text(long[1:])}, {iri(long)}}}
	want := api.Table{Vars: []string{"x"}, Rows: [][]api.Value{{iri(long)}, {text(long[1:])}, {text(long)}}}
	sorted(t, "long texts", api.LangC, in, sorts("x"), want)
	asText := api.Expr{Op: api.ECall, Text: "text", Args: []api.Expr{at("x")}}
	sorted(t, "text of a long IRI", api.LangC, in, by(asText), want)
	if got, err := Group(api.LangC, in, nil, of("count", asText), aWorld()); err != api.ErrArg || !isZero(got) {
		t.Errorf("an argument that may not be a value: %s, %d", short(show(got)), err)
	}
	is(t, "rows", rows.Canon(api.LangC, in), want)
}
