package batch

import (
	"fmt"
	"math/rand"
	"slices"
	"strings"
	"testing"

	"diptych/api"
	"diptych/expr"
	"diptych/logic"
	"diptych/naive"
	"diptych/rows"
	"diptych/value"
)

// model is a batch as the chapter words it: all rows of a table, and the numbers of those that are chosen.
type model struct {
	table  api.Table
	chosen []int
}

// seat is a row of a model with an Env around it.
type seat struct {
	around expr.Env
	m      *model
	row    int
}

func (s seat) Var(name string) api.Value {
	for i, v := range s.m.table.Vars {
		if v == name {
			return s.m.table.Rows[s.row][i]
		}
	}
	return s.around.Var(name)
}
func (s seat) Prop(v api.Value, key string) api.Value { return s.around.Prop(v, key) }
func (s seat) Exists(p api.Plan) (bool, api.Errno)    { return s.around.Exists(p) }

func (m *model) shown() api.Table {
	t := api.Table{Vars: m.table.Vars}
	for _, i := range m.chosen {
		t.Rows = append(t.Rows, m.table.Rows[i])
	}
	return t
}

// eachValue calls do with each chosen row's number and value, until an error of C; in S what errs is unbound.
func (m *model) eachValue(lang int, e api.Expr, env expr.Env, do func(i int, v api.Value, errs bool) api.Errno) api.Errno {
	for _, i := range m.chosen {
		v, err := expr.Eval(lang, e, seat{env, m, i})
		if err != api.OK && lang == api.LangC {
			return err
		}
		if err := do(i, v, err != api.OK); err != api.OK {
			return err
		}
	}
	return api.OK
}

func (m *model) filter(lang int, e api.Expr, env expr.Env) api.Errno {
	var kept []int
	err := m.eachValue(lang, e, env, func(i int, v api.Value, errs bool) api.Errno {
		truth, err := logic.Of(lang, v)
		switch {
		case err != api.OK && lang == api.LangC:
			return err
		case err == api.OK && !errs && truth == api.True:
			kept = append(kept, i)
		}
		return api.OK
	})
	if err == api.OK {
		m.chosen = kept
	}
	return err
}

func (m *model) extend(lang int, name string, e api.Expr, env expr.Env) api.Errno {
	cells := make([]api.Value, len(m.table.Rows))
	err := m.eachValue(lang, e, env, func(i int, v api.Value, errs bool) api.Errno {
		cells[i] = v
		return api.OK
	})
	if err != api.OK {
		return err
	}
	longer := api.Table{Vars: append(slices.Clone(m.table.Vars), name)}
	for i, r := range m.table.Rows {
		longer.Rows = append(longer.Rows, append(slices.Clone(r), cells[i]))
	}
	m.table = longer
	return api.OK
}

func (m *model) unwind(lang int, name string, e api.Expr, env expr.Env) (*model, api.Errno) {
	u := &model{table: api.Table{Vars: append(slices.Clone(m.table.Vars), name)}}
	err := m.eachValue(lang, e, env, func(i int, v api.Value, errs bool) api.Errno {
		if v.Kind != api.KList && v.Kind != api.KNull && lang == api.LangC {
			return api.ErrType
		}
		for _, x := range v.List {
			u.chosen = append(u.chosen, len(u.table.Rows))
			u.table.Rows = append(u.table.Rows, append(slices.Clone(m.table.Rows[i]), x))
		}
		return api.OK
	})
	if err != api.OK {
		return nil, err
	}
	return u, api.OK
}

func (m *model) project(vars []string) {
	t := api.Table{Vars: slices.Clone(vars)}
	for _, r := range m.table.Rows {
		var cells []api.Value
		for _, v := range vars {
			cells = append(cells, none)
			if i := slices.Index(m.table.Vars, v); i >= 0 {
				cells[len(cells)-1] = r[i]
			}
		}
		t.Rows = append(t.Rows, cells)
	}
	m.table = t
}

func pick[T any](r *rand.Rand, l ...T) T { return l[r.Intn(len(l))] }

// someTable tells a table of few variables and few values.
func someTable(r *rand.Rand) api.Table {
	t := api.Table{Vars: strings.Fields("x y z l")[:r.Intn(5)]}
	for range r.Intn(9) {
		var cells []api.Value
		for range t.Vars {
			cells = append(cells, read(pick(r, "-", "0", "1", "2", "1.0", "T", "F", "'a'", "<a>", "(1)", "(2)", "[1,2]", "[]", "[-,'a',[3]]")))
		}
		t.Rows = append(t.Rows, cells)
	}
	return t
}

// someExpr tells an expression over the variables that there are; with env's, too, if there is one.
func someExpr(r *rand.Rand, lang, deep int, vars []string, withEnv bool) api.Expr {
	next := func() api.Expr { return someExpr(r, lang, deep-1, vars, withEnv) }
	if deep == 0 || r.Intn(5) == 0 {
		switch {
		case withEnv && r.Intn(5) == 0:
			return at(pick(r, "w", "x", "y", "l", "bad", "nobody"))
		case len(vars) > 0 && r.Intn(4) > 0:
			return at(pick(r, vars...))
		}
		return lit(read(pick(r, "-", "0", "1", "2", "T", "F", "'a'", "[1,2]", "[]", "1.5")))
	}
	switch r.Intn(9) {
	case 0, 1:
		return op(pick(r, api.EEq, api.ENe, api.ELt, api.ELe, api.EGt, api.EGe), next(), next())
	case 2:
		return op(pick(r, api.EAnd, api.EOr), next(), next())
	case 3:
		return op(pick(r, api.EAdd, api.ESub, api.EMul, api.EDiv), next(), next())
	case 4:
		return api.Expr{Op: api.EIsNull, Flag: r.Intn(2) == 0, Args: []api.Expr{next()}}
	case 5:
		return call("coalesce", next(), next())
	case 6:
		return op(api.ECase, next(), next(), next())
	case 7:
		if withEnv {
			return exists(pick(r, api.PUnit, api.PMatch, api.PMinus))
		}
		return op(api.ENot, next())
	}
	if lang == api.LangS {
		return call(pick(r, "abs", "text", "isiri", "length"), next())
	}
	return pick(r, op(api.EList, next(), next()), prop(next(), "k"), op(api.EIn, next(), next()), call("head", next()))
}

// goesOn takes one step, of b and of m alike, and tells what comes of it.
func goesOn(t *testing.T, r *rand.Rand, what *string, b *Batch, m *model) (*Batch, *model) {
	t.Helper()
	lang := r.Intn(2)
	e := someExpr(r, lang, r.Intn(4), m.table.Vars, true)
	name := pick(r, "x", "y", "z", "l", "m", "n", "w")
	step, got, want := "", api.OK, api.OK
	switch there := slices.Contains(m.table.Vars, name); r.Intn(5) {
	case 0:
		step, got, want = fmt.Sprintf("Filter %d %v", lang, e), b.Filter(lang, e, aWorld()), m.filter(lang, e, aWorld())
	case 1:
		step, got, want = fmt.Sprintf("Extend %d %s %v", lang, name, e), b.Extend(lang, name, e, aWorld()), api.ErrArg
		if !there {
			want = m.extend(lang, name, e, aWorld())
		}
	case 2:
		e = pick(r, e, at("l"), lit(read("[1,-]")))
		u, err := b.Unwind(lang, name, e, aWorld())
		step, got, want = fmt.Sprintf("Unwind %d %s %v", lang, name, e), err, api.ErrArg
		if n := (*model)(nil); !there {
			n, want = m.unwind(lang, name, e, aWorld())
			if got == api.OK && want == api.OK {
				b, m = u, n
			}
		}
	case 3:
		vars := strings.Fields(pick(r, "x", "y x", "l n", "z y x", "x y z l m n", "m l"))
		step, got = fmt.Sprint("Project ", vars), b.Project(vars)
		m.project(vars)
	case 4:
		var some []int
		for _, i := range m.chosen {
			if r.Intn(4) > 0 {
				some = append(some, i)
			}
		}
		step, got = fmt.Sprint("Choose ", some), b.Choose(some)
		m.chosen = some
	}
	*what += "; " + step
	if got != want {
		t.Fatalf("%s: %d; want %d", *what, got, want)
	}
	return b, m
}

// TestModel: P12.1, P12.2: batches and what the chapter says of them, step upon step.
func TestModel(t *testing.T) {
	r := rand.New(rand.NewSource(12))
	for range 4000 {
		begin := someTable(r)
		b, m := of(t, begin), &model{begin, upTo(len(begin.Rows))}
		what := show(begin)
		for range 1 + r.Intn(6) {
			b, m = goesOn(t, r, &what, b, m)
			holds(t, what, b, m.shown(), m.chosen...)
			if t.Failed() {
				return
			}
		}
	}
}

// TestFollows: P12.4: Paste of Cut is the table, whatever the size.
func TestFollows(t *testing.T) {
	r := rand.New(rand.NewSource(124))
	for range 2000 {
		a, size := someTable(r), 1+r.Intn(10)
		l, err := Cut(a, size)
		if err != api.OK {
			t.Fatalf("Cut: %d", err)
		}
		is(t, "Paste of Cut", Paste(a.Vars, l), a)
		is(t, "Paste of Cut under other variables", Paste([]string{"y", "n", "x"}, l), rows.Project(a, []string{"y", "n", "x"}))
		for _, b := range l {
			b.Filter(api.LangC, op(api.EIsNull, at("x")), aWorld())
		}
		whole := of(t, a)
		whole.Filter(api.LangC, op(api.EIsNull, at("x")), aWorld())
		is(t, "Paste of Filter of each", Paste(a.Vars, l), whole.Table())
	}
}

// nothing is an Env in which there is nothing.
type nothing struct{}

func (nothing) Var(string) api.Value              { return api.Value{} }
func (nothing) Prop(api.Value, string) api.Value  { return api.Value{} }
func (nothing) Exists(api.Plan) (bool, api.Errno) { return false, api.OK }
func tables(lang int, a api.Table) api.Plan {
	return api.Plan{Op: api.PValues, Lang: lang, Vars: a.Vars, Rows: a.Rows}
}
func above(o int, p api.Plan, in api.Plan) api.Plan {
	p.Op, p.Lang, p.In = o, in.Lang, []api.Plan{in}
	return p
}

// TestAlgebra: P12.4: what the algebra's Filter, Extend and Project tell of the chosen rows (and its Unwind, as P12.2 words it).
func TestAlgebra(t *testing.T) {
	r := rand.New(rand.NewSource(1204))
	fine := 0
	for range 6000 {
		lang := r.Intn(2)
		b := of(t, someTable(r))
		var some []int
		for _, i := range b.Chosen() {
			if r.Intn(3) > 0 {
				some = append(some, i)
			}
		}
		b.Choose(some)
		chosen := b.Table()
		e := someExpr(r, lang, r.Intn(4), chosen.Vars, false)
		p, err := api.Plan{}, api.OK
		switch r.Intn(4) {
		case 0:
			p, err = above(api.PFilter, api.Plan{E: []api.Expr{e}}, tables(lang, chosen)), b.Filter(lang, e, nothing{})
		case 1:
			p, err = above(api.PExtend, api.Plan{Var: "new", E: []api.Expr{e}}, tables(lang, chosen)), b.Extend(lang, "new", e, nothing{})
		case 2:
			vars := strings.Fields(pick(r, "x", "y x", "l n", "n m x l", ""))
			p, err = above(api.PProject, api.Plan{Vars: vars}, tables(lang, chosen)), b.Project(vars)
		case 3:
			var u *Batch
			u, err = b.Unwind(lang, "new", e, nothing{})
			if p = above(api.PUnwind, api.Plan{Var: "new", E: []api.Expr{e}}, tables(lang, chosen)); err == api.OK {
				b = u
			}
		}
		want, wantErr := naive.Eval(p, api.Data{})
		if wantErr != api.OK && wantErr != api.ErrEval || (err == api.OK) != (wantErr == api.OK) {
			t.Fatalf("Op %d over %s by %v: %d; of the algebra %d", p.Op, show(chosen), e, err, wantErr)
		}
		if err != api.OK {
			is(t, "behind an error", b.Table(), chosen)
			continue
		}
		fine++
		if got := b.Table(); !rows.Same(got, want) {
			t.Fatalf("Op %d over %s by %v: %s; of the algebra %s", p.Op, show(chosen), e, show(got), show(want))
		}
	}
	if fine < 3000 {
		t.Errorf("only %d without an error", fine)
	}
}

// TestSameNumbers: P12.1: values that are equal but not the same stay themselves.
func TestSameNumbers(t *testing.T) {
	a := table("x", "1", "1.0", "[1]", "[1.0]")
	b := of(t, a)
	b.Filter(api.LangC, op(api.EEq, at("x"), at("x")), nothing{})
	for i, r := range b.Table().Rows {
		if !value.Same(r[0], a.Rows[i][0]) {
			t.Errorf("row %d: %s", i, value.Text(r[0]))
		}
	}
}
