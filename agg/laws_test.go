package agg

import (
	"math/rand"
	"slices"
	"strconv"
	"strings"
	"testing"

	"diptych/api"
	"diptych/expr"
	"diptych/naive"
	"diptych/rows"
	"diptych/value"
)

// random makes a table of few variables and few values, so that rows often are the same.
func random(r *rand.Rand) api.Table {
	few := []api.Value{num(1), none, num(0), num(6), dec("1.0"), text("1"), num(1 << 62), list(num(1)), iri("a"), truth(true), tagged("l", "en")}
	few = few[:2+r.Intn(len(few)-1)]
	vars := strings.Fields("v w x y")
	r.Shuffle(len(vars), func(i, j int) { vars[i], vars[j] = vars[j], vars[i] })
	t := api.Table{Vars: vars[:r.Intn(5)]}
	for range r.Intn(9) {
		var cells []api.Value
		for range t.Vars {
			cells = append(cells, few[r.Intn(len(few))])
		}
		t.Rows = append(t.Rows, cells)
	}
	return t
}

// someExpression makes an expression over some of the names; it often errs.
func someExpression(r *rand.Rand, names []string) api.Expr {
	name := func() api.Expr { return at(names[r.Intn(len(names))]) }
	switch r.Intn(9) {
	case 0:
		return over(name())
	case 1:
		return op(api.EAdd, name(), name())
	case 2:
		return op(api.EIsNull, name())
	case 3:
		return op(api.ELt, name(), someExpression(r, names))
	case 4:
		return lit([]api.Value{none, num(2), truth(false)}[r.Intn(3)])
	}
	return name()
}

// someAggs makes aggregates of the language.
func someAggs(r *rand.Rand, lang int, names []string) []api.Agg {
	kinds := strings.Fields("count sum min max avg count min max collect")
	if lang == api.LangS {
		kinds = strings.Fields("count sum min max avg sample concat")
	}
	var l []api.Agg
	for i := range r.Intn(4) {
		e := api.Expr{Op: api.EAgg, Text: kinds[r.Intn(len(kinds))], Flag: r.Intn(3) == 0, Args: []api.Expr{someExpression(r, names)}}
		if e.Text == "count" && r.Intn(2) == 0 {
			e.Args = nil
		}
		l = append(l, api.Agg{Var: "a" + strconv.Itoa(i), E: e})
	}
	return l
}

func someSorts(r *rand.Rand, names []string) []api.Sort {
	var l []api.Sort
	for range 1 + r.Intn(3) {
		l = append(l, api.Sort{E: someExpression(r, names), Down: r.Intn(2) == 0})
	}
	return l
}

// seat is a row, with an Env around it.
type seat struct {
	around expr.Env
	vars   []string
	row    []api.Value
}

func (s seat) Var(name string) api.Value {
	for i, v := range s.vars {
		if v == name {
			return s.row[i]
		}
	}
	return s.around.Var(name)
}
func (s seat) Prop(v api.Value, key string) api.Value { return s.around.Prop(v, key) }
func (s seat) Exists(p api.Plan) (bool, api.Errno)    { return s.around.Exists(p) }

// modelArgument tells the values of e's argument for the rows, as chapter 11 words it, and whether e errs by them.
func modelArgument(lang int, e api.Expr, in api.Table, env expr.Env) (l []api.Value, bad bool) {
	for _, row := range in.Rows {
		if len(e.Args) == 0 {
			break
		}
		v, err := expr.Eval(lang, e.Args[0], seat{env, in.Vars, row})
		switch {
		case err != api.OK:
			bad = bad || strings.Contains("sum avg min max concat", e.Text)
		case lang == api.LangS || v.Kind != api.KNull:
			l = append(l, v)
		}
	}
	return l, bad
}

// modelGroup is Group as the chapter words it.
func modelGroup(lang int, t api.Table, keys []string, aggs []api.Agg, env expr.Env) (api.Table, api.Errno) {
	for _, row := range t.Rows {
		for _, a := range aggs {
			for _, arg := range a.E.Args {
				if _, err := expr.Eval(lang, arg, seat{env, t.Vars, row}); err != api.OK && lang != api.LangS {
					return api.Table{}, err
				}
			}
		}
	}
	cells := rows.Canon(lang, rows.Distinct(rows.Project(t, keys)))
	if len(keys) == 0 {
		cells.Rows = [][]api.Value{nil}
	}
	told := api.Table{Vars: slices.Clone(keys)}
	for _, a := range aggs {
		told.Vars = append(told.Vars, a.Var)
	}
	for _, key := range cells.Rows {
		in := api.Table{Vars: t.Vars}
		for _, row := range t.Rows {
			has := rows.Project(api.Table{Vars: t.Vars, Rows: [][]api.Value{row}}, keys).Rows[0]
			if slices.EqualFunc(has, key, value.Same) {
				in.Rows = append(in.Rows, row)
			}
		}
		row := slices.Clone(key)
		for _, a := range aggs {
			l, bad := modelArgument(lang, a.E, in, env)
			v, err := naive.Aggregate(lang, a.E, l, len(in.Rows))
			if err != api.OK && lang != api.LangS {
				return api.Table{}, err
			}
			if bad {
				v = none
			}
			row = append(row, v)
		}
		told.Rows = append(told.Rows, row)
	}
	return told, api.OK
}

// modelSort is Sort as the chapter words it: a row is put behind those that it does not go ahead of.
func modelSort(lang int, t api.Table, sorts []api.Sort, env expr.Env) (api.Table, api.Errno) {
	told := api.Table{Vars: t.Vars}
	var keys [][]api.Value
	for _, row := range t.Rows {
		var key []api.Value
		for _, s := range sorts {
			v, err := expr.Eval(lang, s.E, seat{env, t.Vars, row})
			if err != api.OK && lang != api.LangS {
				return api.Table{}, err
			}
			key = append(key, v)
		}
		at := 0
		for at < len(keys) && !goesAhead(lang, sorts, key, keys[at], row, told.Rows[at]) {
			at++
		}
		keys = slices.Insert(keys, at, key)
		told.Rows = slices.Insert(told.Rows, at, row)
	}
	return told, api.OK
}

func goesAhead(lang int, sorts []api.Sort, key, other, row, otherRow []api.Value) bool {
	for i, s := range sorts {
		switch o := value.Order(lang, key[i], other[i]); {
		case o != 0 && s.Down:
			return o > 0
		case o != 0:
			return o < 0
		}
	}
	return rows.Compare(lang, row, otherRow) < 0
}

// TestModel: P14.1 and P14.2 of tables of all sorts.
func TestModel(t *testing.T) {
	r := rand.New(rand.NewSource(14))
	errs, found := map[api.Errno]int{}, 0
	for range 8000 {
		in, lang := random(r), r.Intn(2)
		names := append([]string{"w", "q"}, in.Vars...)
		what := show(in) + " in " + strconv.Itoa(lang)

		keys := slices.Clone(in.Vars)
		r.Shuffle(len(keys), func(i, j int) { keys[i], keys[j] = keys[j], keys[i] })
		keys = keys[:r.Intn(len(keys)+1)]
		l := someAggs(r, lang, names)
		got, err := Group(lang, in, keys, l, aWorld())
		want, wantErr := modelGroup(lang, in, keys, l, aWorld())
		if err != wantErr {
			t.Errorf("Group by %v of %s: %d; want %d", keys, what, err, wantErr)
		}
		is(t, "Group of "+what, got, want)
		errs[err]++
		found += len(got.Rows)
		countsAreRows(t, lang, in, keys)

		s := someSorts(r, names)
		got, err = Sort(lang, in, s, aWorld())
		want, wantErr = modelSort(lang, in, s, aWorld())
		if err != wantErr {
			t.Errorf("Sort of %s: %d; want %d", what, err, wantErr)
		}
		is(t, "Sort of "+what, got, want)
		errs[err]++
		for _, n := range []int64{0, 1, int64(r.Intn(9)), int64(len(in.Rows))} {
			first, firstErr := Top(lang, in, s, n, aWorld())
			if firstErr != err {
				t.Errorf("Top %d of %s: %d; want %d", n, what, firstErr, err)
			}
			is(t, "Top of "+what, first, Slice(got, 0, n))
		}
		if t.Failed() {
			return
		}
	}
	if errs[api.OK] < 8000 || errs[api.ErrZero] < 100 || errs[api.ErrType] < 100 || errs[api.ErrOverflow] < 15 || found < 8000 {
		t.Errorf("too little to look at: %v, %d", errs, found)
	}
}

// countsAreRows: P14.2: counts of all groups are as many as rows.
func countsAreRows(t *testing.T, lang int, in api.Table, keys []string) {
	t.Helper()
	got, err := Group(lang, in, keys, aggs("n:count"), aWorld())
	all := int64(0)
	for _, row := range got.Rows {
		all += row[len(row)-1].Int
	}
	if err != api.OK || all != int64(len(in.Rows)) {
		t.Errorf("counts of %s by %v: %d, %d", show(in), keys, all, err)
	}
}

// TestNaive: P14.1: the calls tell what plans of them mean, and err just where these do.
func TestNaive(t *testing.T) {
	r := rand.New(rand.NewSource(141))
	for range 4000 {
		in, lang := random(r), r.Intn(2)
		if len(in.Vars) == 0 {
			continue
		}
		means := func(what string, got api.Table, err api.Errno, p api.Plan) {
			t.Helper()
			want, wantErr := naive.Eval(p, api.Data{})
			if (err == api.OK) != (wantErr == api.OK) {
				t.Errorf("%s of %s in %d: %d; naive %d", what, show(in), lang, err, wantErr)
			}
			is(t, what, got, want)
		}
		over := []api.Plan{{Op: api.PValues, Lang: lang, Vars: in.Vars, Rows: in.Rows}}
		nothing := &world{}
		l, keys := someAggs(r, lang, in.Vars), in.Vars[:r.Intn(len(in.Vars)+1)]
		got, err := Group(lang, in, keys, l, nothing)
		means("Group", got, err, api.Plan{Op: api.PGroup, Lang: lang, Vars: keys, Aggs: l, In: over})
		s := someSorts(r, in.Vars)
		got, err = Sort(lang, in, s, nothing)
		order := api.Plan{Op: api.POrder, Lang: lang, Sorts: s, In: over}
		means("Sort", got, err, order)
		n, skip := int64(r.Intn(6)-1), int64(r.Intn(6)-1)
		slice := api.Plan{Op: api.PSlice, Lang: lang, Skip: skip, Limit: n, In: []api.Plan{order}}
		means("Slice", Slice(got, skip, n), err, slice)
		if n >= 0 {
			slice.Skip = -1
			got, err = Top(lang, in, s, n, nothing)
			means("Top", got, err, slice)
		}
		if t.Failed() {
			return
		}
	}
}

// TestGreat: P14.3: R3: calls on great tables end.
func TestGreat(t *testing.T) {
	const n = 60000
	in := table("x y z")
	for i := range int64(n) {
		in.Rows = append(in.Rows, []api.Value{num(i % 251), text(strconv.FormatInt(i*7919%n, 10)), num(i * 7919 % n)})
	}
	got, err := Group(api.LangC, in, []string{"x"}, aggs("n:count m:max:z s:sum:z"), aWorld())
	countsAreRows(t, api.LangC, in, []string{"x"})
	if err != api.OK || len(got.Rows) != 251 || got.Rows[250][0].Int != 250 {
		t.Errorf("Group: %d rows, %d", len(got.Rows), err)
	}
	got, err = Group(api.LangS, in, []string{"y", "x"}, aggs("n:count"), aWorld())
	if err != api.OK || len(got.Rows) != n || got.Rows[0][0].Text != "0" || got.Rows[1][0].Text != "1" || got.Rows[2][0].Text != "10" {
		t.Errorf("Group: %d rows, %d", len(got.Rows), err)
	}
	got, err = Sort(api.LangC, in, sorts("-z"), aWorld())
	if err != api.OK || len(got.Rows) != n || got.Rows[0][2].Int != n-1 || got.Rows[n-1][2].Int != 0 {
		t.Errorf("Sort: %d rows, %d", len(got.Rows), err)
	}
	top, err := Top(api.LangC, in, sorts("-z"), 1000, aWorld())
	is(t, "Top of many", top, Slice(got, 0, 1000))
	if err != api.OK || len(top.Rows) != 1000 {
		t.Errorf("Top: %d rows, %d", len(top.Rows), err)
	}
	is(t, "Slice of many", Slice(got, n-2, -1), api.Table{Vars: got.Vars, Rows: got.Rows[n-2:]})
}
