package join

import (
	"math/rand"
	"slices"
	"strconv"
	"strings"
	"testing"

	"diptych/algebra"
	"diptych/api"
	"diptych/expr"
	"diptych/naive"
	"diptych/rows"
)

func sortedTable(t api.Table) api.Table { return rows.Canon(api.LangS, t) }

// random makes a table of few variables and few values, so that rows often are the same, and often fit.
func random(r *rand.Rand) api.Table {
	few := []api.Value{none, none, num(0), num(1), num(6), dec("1.0"), text("1"), list(num(1)), iri("a"), truth(true)}
	few = few[:2+r.Intn(len(few)-1)]
	vars := strings.Fields("v w x y z")
	r.Shuffle(len(vars), func(i, j int) { vars[i], vars[j] = vars[j], vars[i] })
	t := api.Table{Vars: vars[:r.Intn(5)]}
	for range r.Intn(8) {
		var cells []api.Value
		for range t.Vars {
			cells = append(cells, few[r.Intn(len(few))])
		}
		t.Rows = append(t.Rows, cells)
	}
	return t
}

// modelParted tells a's rows, as the chapter words it: those for which b has a compatible one, and the others.
func modelParted(a, b api.Table) (semi, anti api.Table) {
	semi.Vars, anti.Vars = a.Vars, a.Vars
	for i, row := range a.Rows {
		fits := false
		for j := range b.Rows {
			fits = fits || rows.Fits(a, b, i, j)
		}
		if fits {
			semi.Rows = append(semi.Rows, row)
		} else {
			anti.Rows = append(anti.Rows, row)
		}
	}
	return semi, anti
}

// seat is a row, with an Env around it.
type seat struct {
	around expr.Env
	vars   []string
	row    []api.Value
}

func (s seat) Var(name string) api.Value {
	for i, v := range s.vars {
		if v == name {
			return s.row[i]
		}
	}
	return s.around.Var(name)
}
func (s seat) Prop(v api.Value, key string) api.Value { return s.around.Prop(v, key) }
func (s seat) Exists(p api.Plan) (bool, api.Errno)    { return s.around.Exists(p) }

// modelLeft is Left as the chapter words it.
func modelLeft(lang int, a, b api.Table, on api.Expr, env expr.Env) (api.Table, api.Errno) {
	told := api.Table{Vars: rows.Join(a, b).Vars}
	for _, row := range a.Rows {
		alone := api.Table{Vars: a.Vars, Rows: [][]api.Value{row}}
		before := len(told.Rows)
		for _, joined := range rows.Join(alone, b).Rows {
			truth, err := expr.Truth(lang, on, seat{env, told.Vars, joined})
			if err != api.OK {
				return api.Table{}, err
			}
			if truth == api.True {
				told.Rows = append(told.Rows, joined)
			}
		}
		if len(told.Rows) == before {
			told.Rows = append(told.Rows, rows.Project(alone, told.Vars).Rows...)
		}
	}
	return told, api.OK
}

// someCondition makes a condition over few variables; in C it often errs.
func someCondition(r *rand.Rand) api.Expr {
	name := func() api.Expr { return at(strings.Fields("v w x y z other")[r.Intn(6)]) }
	switch r.Intn(8) {
	case 0:
		return yes
	case 1:
		return over(name())
	case 2:
		return op(api.EOr, someCondition(r), someCondition(r))
	case 3:
		return op(api.EIsNull, name())
	case 4:
		return exists(api.PUnit + r.Intn(2)*(api.PMinus-api.PUnit))
	case 5:
		return op(api.ELt, name(), name())
	case 6:
		return op(api.ENot, someCondition(r))
	}
	return op(api.EEq, name(), name())
}

// TestModel: P13.1, P13.2 and P13.4 of tables of all sorts.
func TestModel(t *testing.T) {
	r := rand.New(rand.NewSource(13))
	errs := map[api.Errno]int{}
	for range 6000 {
		a, b := random(r), random(r)
		what := show(a) + " and " + show(b)
		is(t, "Hash of "+what, Hash(a, b), rows.Join(a, b))
		is(t, "Loop of "+what, Loop(a, b), rows.Join(a, b))
		is(t, "Minus of "+what, Minus(a, b), rows.Minus(a, b))
		semi, anti := modelParted(a, b)
		is(t, "Semi of "+what, Semi(a, b), semi)
		is(t, "Anti of "+what, Anti(a, b), anti)
		if !rows.Same(rows.Union(Semi(a, b), Anti(a, b)), a) {
			t.Errorf("Semi and Anti do not part %s", what)
		}
		lang, on := r.Intn(2), someCondition(r)
		got, err := Left(lang, a, b, on, aWorld())
		want, wantErr := modelLeft(lang, a, b, on, aWorld())
		errs[err]++
		if err != wantErr {
			t.Errorf("Left in %d of %s: %d; want %d", lang, what, err, wantErr)
		}
		is(t, "Left of "+what, got, want)
		if t.Failed() {
			return
		}
	}
	if errs[api.OK] < 3000 || errs[api.ErrZero] < 50 || errs[api.ErrType] < 50 || errs[api.ErrBudget] < 50 {
		t.Errorf("too few errors to look at: %v", errs)
	}
}

// TestNaive: P13.1, P13.2: the joins tell what plans of them mean.
func TestNaive(t *testing.T) {
	r := rand.New(rand.NewSource(131))
	values := func(a api.Table) api.Plan { return api.Plan{Op: api.PValues, Vars: a.Vars, Rows: a.Rows} }
	for range 1000 {
		a, b := random(r), random(r)
		means := func(what string, op int, got api.Table, e ...api.Expr) {
			t.Helper()
			want, err := naive.Eval(api.Plan{Op: op, In: []api.Plan{values(a), values(b)}, E: e}, api.Data{})
			if err != api.OK {
				t.Fatalf("%s: %d", what, err)
			}
			is(t, what, rows.Canon(api.LangC, got), want)
		}
		means("Hash", api.PJoin, Hash(a, b))
		means("Loop", api.PJoin, Loop(a, b))
		means("Minus", api.PMinus, Minus(a, b))
		both := slices.Concat(a.Vars, b.Vars)
		if len(both) < 2 {
			continue
		}
		on := op(api.ENe, at(both[0]), at(both[len(both)-1]))
		left, err := Left(api.LangC, a, b, on, aWorld())
		if err != api.OK {
			t.Errorf("Left: %d", err)
		}
		means("Left", api.PLeft, left, on)
	}
}

// orders yields all orders of the names.
func orders(names []string) [][]string {
	if len(names) == 0 {
		return [][]string{nil}
	}
	var all [][]string
	for i, name := range names {
		for _, l := range orders(slices.Delete(slices.Clone(names), i, i+1)) {
			all = append(all, append([]string{name}, l...))
		}
	}
	return all
}

// someTriples and somePatterns are of few values, so that there often are ways.
func someTriples(r *rand.Rand) []api.Triple {
	nodes := []api.Value{iri("a"), iri("b"), iri("p"), iri("q"), blank("a")}
	ends := append(nodes[:5:5], num(1), dec("1.0"), text("a"), truth(false), tagged("a", "en"))
	var l []api.Triple
	for range r.Intn(60) {
		l = append(l, api.Triple{S: nodes[r.Intn(5)], P: nodes[1+r.Intn(3)], O: ends[r.Intn(len(ends))]})
	}
	return l
}

func somePatterns(r *rand.Rand, l []api.Triple) []api.Pattern {
	var some []api.Pattern
	for range r.Intn(5) {
		var p api.Pattern
		if len(l) > 0 && r.Intn(9) > 0 {
			p = api.Pattern(l[r.Intn(len(l))])
		} else {
			p = api.Pattern{S: iri("b"), P: iri("a"), O: text("nowhere")}
		}
		for _, part := range []*api.Value{&p.S, &p.O, &p.P} {
			if r.Intn(4) > 0 {
				*part = api.Value{Text: "v" + strconv.Itoa(r.Intn(4))}
			}
		}
		some = append(some, p)
	}
	return some
}

// TestTrieMeans: P13.3, P13.4: in whatever order, Trie tells what the plan means, and ErrBudget just if it may tell fewer.
func TestTrieMeans(t *testing.T) {
	r := rand.New(rand.NewSource(133))
	ways := 0
	for range 3000 {
		data := someTriples(r)
		l := somePatterns(r, data)
		s := store(t, data)
		bgp := api.Plan{Op: api.PBgp, Lang: api.LangS, Bgp: l}
		want, err := naive.Eval(bgp, api.Data{T: data})
		if err != api.OK {
			t.Fatalf("naive: %d", err)
		}
		ways += len(want.Rows)
		for _, order := range orders(algebra.Vars(bgp)) {
			what := strings.Join(order, " ") + " of " + show(want)
			most := len(want.Rows) + r.Intn(2)
			got, err := Trie(s, l, order, most)
			if err != api.OK {
				t.Errorf("%s: %d", short(what), err)
			}
			is(t, what, got, rows.Canon(api.LangS, rows.Project(want, order)))
			if most = r.Intn(len(want.Rows) + 1); most < len(want.Rows) {
				if told, err := Trie(s, l, order, most); err != api.ErrBudget || !isZero(told) {
					t.Errorf("%s, at most %d: %d", short(what), most, err)
				}
			}
		}
		if t.Failed() {
			return
		}
	}
	if ways < 10000 {
		t.Errorf("too few ways to look at: %d", ways)
	}
}

// TestTrieOfMany: P13.3: triangles in a great store, held against a search through its triples.
func TestTrieOfMany(t *testing.T) {
	const nodes = 400
	r := rand.New(rand.NewSource(31))
	var l []api.Triple
	next := map[int][]int{}
	for range 20000 {
		a, b := r.Intn(nodes), r.Intn(nodes)
		if !slices.Contains(next[a], b) {
			next[a] = append(next[a], b)
		}
		l = append(l, api.Triple{S: iri("n" + strconv.Itoa(a)), P: iri("p"), O: iri("n" + strconv.Itoa(b))})
	}
	var want [][]string
	for a := range nodes {
		for _, b := range next[a] {
			for _, c := range next[b] {
				if a != b && a != c && slices.Contains(next[a], c) {
					want = append(want, []string{"n" + strconv.Itoa(a), "n" + strconv.Itoa(b), "n" + strconv.Itoa(c)})
				}
			}
		}
	}
	slices.SortFunc(want, slices.Compare)
	s := store(t, append(l, facts("a q b")...))
	got, err := Trie(s, patterns("?a p ?b . ?b p ?c . ?a p ?c"), []string{"a", "b", "c"}, 1<<20)
	var found [][]string
	for _, row := range got.Rows {
		if row[0].Text != row[1].Text && row[0].Text != row[2].Text {
			found = append(found, []string{row[0].Text, row[1].Text, row[2].Text})
		}
	}
	if err != api.OK || !slices.EqualFunc(found, want, slices.Equal) {
		t.Errorf("%d triangles, %d; want %d", len(found), err, len(want))
	}
	if !slices.IsSortedFunc(got.Rows, func(a, b []api.Value) int { return rows.Compare(api.LangS, a, b) }) {
		t.Error("the rows are not sorted")
	}
}

// TestGreat: P13.5: R3: calls on great tables end.
func TestGreat(t *testing.T) {
	const n = 30000
	a, b := table("x y"), table("y z")
	for i := range int64(n) {
		a.Rows = append(a.Rows, []api.Value{num(i), text(strconv.FormatInt(i, 10))})
		b.Rows = append(b.Rows, []api.Value{text(strconv.FormatInt(n-1-i, 10)), dec("0.5")})
	}
	left, err := Left(api.LangC, a, b, op(api.ELt, at("x"), lit(num(n/2))), aWorld())
	if err != api.OK || len(left.Rows) != n || left.Rows[n/2-1][2].Kind != api.KDec || left.Rows[n/2][2].Kind != api.KNull {
		t.Errorf("Left: %d rows, %d", len(left.Rows), err)
	}
	if j := Hash(a, b); len(j.Rows) != n || j.Rows[7][0].Int != 7 || len(Semi(a, b).Rows) != n || len(Anti(a, b).Rows) != 0 || len(Minus(a, b).Rows) != 0 {
		t.Errorf("Hash: %d rows", len(j.Rows))
	}
	a.Rows, b.Rows = a.Rows[:1000], b.Rows[n-1500:]
	if j := Loop(a, b); !rows.Same(j, Hash(a, b)) || len(j.Rows) != 1000 {
		t.Errorf("Loop: %d rows", len(j.Rows))
	}
}
