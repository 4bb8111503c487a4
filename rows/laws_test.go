package rows

import (
	"fmt"
	"math/rand"
	"slices"
	"strconv"
	"strings"
	"testing"
	"unsafe"

	"diptych/api"
	"diptych/value"
)

// The model: the calls as the chapter words them, cell by cell, without any map.

func bound(t api.Table, i int, v string) (api.Value, bool) {
	at := slices.Index(t.Vars, v)
	if at < 0 || t.Rows[i][at].Kind == api.KNull {
		return api.Value{}, false
	}
	return t.Rows[i][at], true
}

func sameRow(a, b []api.Value) bool { return slices.EqualFunc(a, b, value.Same) }

// modelFits tells whether the rows are compatible, and whether a variable is bound in both.
func modelFits(a, b api.Table, i, j int) (fits, meets bool) {
	fits = true
	for _, v := range a.Vars {
		x, ok := bound(a, i, v)
		y, also := bound(b, j, v)
		if ok && also {
			meets = true
			fits = fits && value.Same(x, y)
		}
	}
	return fits, meets
}

func modelVars(a, b api.Table) []string {
	vars := slices.Clone(a.Vars)
	for _, v := range b.Vars {
		if !slices.Contains(a.Vars, v) {
			vars = append(vars, v)
		}
	}
	return vars
}

func modelJoin(a, b api.Table) api.Table {
	t := api.Table{Vars: modelVars(a, b)}
	for i := range a.Rows {
		for j := range b.Rows {
			if fits, _ := modelFits(a, b, i, j); !fits {
				continue
			}
			var cells []api.Value
			for _, v := range t.Vars {
				x, ok := bound(a, i, v)
				if !ok {
					x, _ = bound(b, j, v)
				}
				cells = append(cells, x)
			}
			t.Rows = append(t.Rows, cells)
		}
	}
	return t
}

func modelProject(a api.Table, vars []string) api.Table {
	t := api.Table{Vars: vars}
	for i := range a.Rows {
		var cells []api.Value
		for _, v := range vars {
			x, _ := bound(a, i, v)
			cells = append(cells, x)
		}
		t.Rows = append(t.Rows, cells)
	}
	return t
}

func modelUnion(a, b api.Table) api.Table {
	vars := modelVars(a, b)
	return api.Table{Vars: vars, Rows: append(modelProject(a, vars).Rows, modelProject(b, vars).Rows...)}
}

func modelMinus(a, b api.Table) api.Table {
	t := api.Table{Vars: a.Vars}
	for i := range a.Rows {
		out := false
		for j := range b.Rows {
			fits, meets := modelFits(a, b, i, j)
			out = out || fits && meets
		}
		if !out {
			t.Rows = append(t.Rows, a.Rows[i])
		}
	}
	return t
}

func modelDistinct(a api.Table) api.Table {
	t := api.Table{Vars: a.Vars}
	for _, r := range a.Rows {
		if !slices.ContainsFunc(t.Rows, func(s []api.Value) bool { return sameRow(r, s) }) {
			t.Rows = append(t.Rows, r)
		}
	}
	return t
}

// modelCanon sorts by putting each row behind all that are not behind it.
func modelCanon(lang int, a api.Table) api.Table {
	t := api.Table{Vars: a.Vars}
	for _, r := range a.Rows {
		at := 0
		for at < len(t.Rows) && Compare(lang, t.Rows[at], r) <= 0 {
			at++
		}
		t.Rows = slices.Insert(t.Rows, at, r)
	}
	return t
}

func modelSame(a, b api.Table) bool {
	left := slices.Clone(b.Rows)
	for _, r := range a.Rows {
		at := slices.IndexFunc(left, func(s []api.Value) bool { return sameRow(r, s) })
		if at < 0 {
			return false
		}
		left = slices.Delete(left, at, at+1)
	}
	return slices.Equal(a.Vars, b.Vars) && len(left) == 0
}

// random makes a table of few variables and few values, so that rows often are the same, and often fit.
func random(r *rand.Rand) api.Table {
	few := []api.Value{none, none, whole(1), whole(2), exact("1.0"), text("1"), several(whole(1)), iri("a")}
	few = few[:2+r.Intn(len(few)-1)]
	vars := strings.Fields("v w x y z")
	r.Shuffle(len(vars), func(i, j int) { vars[i], vars[j] = vars[j], vars[i] })
	t := api.Table{Vars: vars[:r.Intn(5)]}
	for range r.Intn(8) {
		var cells []api.Value
		for range t.Vars {
			cells = append(cells, few[r.Intn(len(few))])
		}
		t.Rows = append(t.Rows, cells)
	}
	return t
}

func shuffled(r *rand.Rand, t api.Table) api.Table {
	rows := slices.Clone(t.Rows)
	r.Shuffle(len(rows), func(i, j int) { rows[i], rows[j] = rows[j], rows[i] })
	return api.Table{Vars: t.Vars, Rows: rows}
}

// TestModel: P9.1 to P9.4 of tables of all sorts.
func TestModel(t *testing.T) {
	r := rand.New(rand.NewSource(9))
	for range 6000 {
		a, b := random(r), random(r)
		if !Check(a) || !Check(b) {
			t.Fatalf("%s, or %s may not be", show(a), show(b))
		}
		what := show(a) + " and " + show(b)
		is(t, "Join of "+what, Join(a, b), modelJoin(a, b))
		is(t, "Union of "+what, Union(a, b), modelUnion(a, b))
		is(t, "Minus of "+what, Minus(a, b), modelMinus(a, b))
		is(t, "Project of "+what, Project(a, b.Vars), modelProject(a, b.Vars))
		is(t, "Distinct of "+what, Distinct(a), modelDistinct(a))
		for lang := range 2 {
			is(t, "Canon of "+what, Canon(lang, a), modelCanon(lang, a))
		}
		for i := range a.Rows {
			for j := range b.Rows {
				if want, _ := modelFits(a, b, i, j); Fits(a, b, i, j) != want {
					t.Errorf("Fits of rows %d, %d of %s: %v", i, j, what, !want)
				}
			}
		}
		c := shuffled(r, a)
		if len(c.Rows) > 0 && r.Intn(2) == 0 {
			c.Rows[0] = c.Rows[r.Intn(len(c.Rows))]
		}
		for _, other := range []api.Table{b, c} {
			if want := modelSame(a, other); Same(a, other) != want {
				t.Errorf("Same of %s and %s: %v", show(a), show(other), !want)
			}
		}
		if t.Failed() {
			return
		}
	}
}

// TestFollows: P9.5.
func TestFollows(t *testing.T) {
	r := rand.New(rand.NewSource(95))
	one, nothing := table("", ""), api.Table{}
	for range 3000 {
		a, b, c := random(r), random(r), random(r)
		what := show(a) + " and " + show(b)
		is(t, "Join with one row of "+what, Join(a, one), a)
		is(t, "one row joined with "+what, Join(one, a), a)
		is(t, "Join with none of "+what, Join(a, nothing), api.Table{Vars: a.Vars})
		is(t, "none joined with "+what, Join(nothing, a), api.Table{Vars: a.Vars})
		ab, ba := Join(a, b), Join(b, a)
		if !Same(ab, Project(ba, ab.Vars)) || !Same(Join(ab, c), Join(a, Join(b, c))) {
			t.Errorf("Join goes in another order otherwise: %s and %s", what, show(c))
		}
		if !Same(Join(a, b), Join(shuffled(r, a), shuffled(r, b))) {
			t.Errorf("Join of shuffled %s is another one", what)
		}
		for lang := range 2 {
			sorted := Canon(lang, a)
			is(t, "Canon of Canon of "+what, Canon(lang, sorted), sorted)
			is(t, "Canon of shuffled "+what, Canon(lang, shuffled(r, a)), sorted)
			if !Same(a, sorted) || !slices.IsSortedFunc(sorted.Rows, func(x, y []api.Value) int { return Compare(lang, x, y) }) {
				t.Errorf("Canon of %s: %s", what, show(sorted))
			}
		}
		others := b
		others.Vars = names(len(b.Vars), "n")
		is(t, "Minus of what shares no variable with "+what, Minus(a, others), a)
		if d := Distinct(a); !Same(d, Distinct(shuffled(r, a))) || !Same(d, Distinct(d)) {
			t.Errorf("Distinct of %s: %s", what, show(d))
		}
		if t.Failed() {
			return
		}
	}
}

// calls tells what every call that tells a table tells of a and b.
func calls(a, b api.Table) []api.Table {
	return []api.Table{Canon(api.LangC, a), Canon(api.LangS, b), Join(a, b), Join(b, a), Union(a, b), Minus(a, b), Minus(b, a), Project(a, b.Vars), Project(b, []string{"new", "x"}), Distinct(a), Distinct(b)}
}

// answers tells what all calls tell of a and b.
func answers(a, b api.Table) string {
	var out []string
	for _, t := range calls(a, b) {
		out = append(out, show(t))
	}
	out = append(out, fmt.Sprint(Check(a), Check(b), Same(a, b), Same(a, a)))
	for i := range a.Rows {
		for j := range b.Rows {
			out = append(out, fmt.Sprint(Fits(a, b, i, j), Compare(i%2, a.Rows[i], b.Rows[j])))
		}
	}
	return strings.Join(out, "\n")
}

// tables are two with lists, texts, the same rows and unbound cells in them.
func tables() (a, b api.Table) {
	l := several(whole(1), several(text("in"), lit("l", "@en")))
	a = api.Table{Vars: strings.Fields("x y z"), Rows: [][]api.Value{row(l, text("t"), none), row(none, none, none), row(l, text("t"), none), row(iri("i"), none, several()), row(whole(5), text("t"), blank("b"))}}
	b = api.Table{Vars: strings.Fields("q y x"), Rows: [][]api.Value{row(exact("0.5"), text("t"), l), row(l, none, none), row(none, text("t"), whole(5)), row(l, text("u"), l)}}
	return cloned(a), cloned(b)
}

// spaced lays each list of t into one that goes on behind its length.
func spaced(t api.Table, behind api.Value) api.Table {
	var lay func(l []api.Value) []api.Value
	lay = func(l []api.Value) []api.Value {
		room := slices.Repeat(row(behind), len(l)+3)
		for i, v := range l {
			v.List = lay(v.List)
			room[i] = v
		}
		return room[:len(l)]
	}
	s := api.Table{Vars: append(slices.Clone(t.Vars), "behind", "behind")[:len(t.Vars)]}
	for _, r := range t.Rows {
		s.Rows = append(s.Rows, lay(r))
	}
	s.Rows = append(s.Rows, row(behind), row(behind))[:len(t.Rows)]
	return s
}

// wholly tells t with all that lies behind its lists' lengths, as text.
func wholly(t api.Table) string {
	var tell func(l []api.Value) string
	tell = func(l []api.Value) string {
		out := "("
		for _, v := range l[:cap(l)] {
			out += fmt.Sprint(v.Kind, v.Bool, v.Int, v.Text, v.Extra, tell(v.List))
		}
		return out + ")"
	}
	out := strings.Join(t.Vars[:cap(t.Vars)], " ")
	for _, r := range t.Rows[:cap(t.Rows)] {
		out += "|" + tell(r)
	}
	return out
}

// TestHandedInIsLeft: P9.6: R2: what is handed in, and what lies behind it, is not changed, and what lies behind it is not read.
func TestHandedInIsLeft(t *testing.T) {
	a, b := tables()
	want := answers(a, b)
	for _, behind := range []api.Value{none, text("behind"), {Kind: 99, Text: "bad"}} {
		x, y := spaced(a, behind), spaced(b, behind)
		before, too := wholly(x), wholly(y)
		if got := answers(x, y); got != want {
			t.Errorf("what lies behind was read:\n%s\nwant\n%s", got, want)
		}
		if wholly(x) != before || wholly(y) != too {
			t.Errorf("what was handed in is another now:\n%s\n%s", wholly(x), wholly(y))
		}
	}
}

// spoil writes over all of t, and over what lies behind its lists' lengths.
func spoil(t api.Table) {
	var over func(l []api.Value)
	over = func(l []api.Value) {
		l = l[:cap(l)]
		for i := range l {
			over(l[i].List)
			l[i] = api.Value{Kind: -5, Text: "spoilt"}
		}
	}
	for _, r := range t.Rows[:cap(t.Rows)] {
		over(r)
	}
	clear(t.Rows[:cap(t.Rows)])
	for i := range t.Vars[:cap(t.Vars)] {
		t.Vars[:cap(t.Vars)][i] = "spoilt"
	}
}

// TestToldIsNew: P9.6: R2: answers may be written over, and what was handed in, behind the call, too.
func TestToldIsNew(t *testing.T) {
	a, b := tables()
	want := answers(a, b)
	for _, told := range calls(a, b) {
		spoil(told)
	}
	if got := answers(a, b); got != want {
		t.Errorf("answers share memory with what was handed in:\n%s\nwant\n%s", got, want)
	}
	var shown []string
	told := calls(a, b)
	for _, x := range told {
		shown = append(shown, show(x))
	}
	spoil(a)
	spoil(b)
	for i, x := range told {
		if show(x) != shown[i] {
			t.Errorf("answer %d is another, now that what was handed in is written over: %s", i, show(x))
		}
	}
	vars := []string{"x", "y"}
	p := Project(table("x y", "1 2"), vars)
	vars[0] = "z"
	is(t, "Project, its variables written over", p, table("x y", "1 2"))
}

// TestNoListIsShared: P9.6: R2: no two lists of one answer share memory.
func TestNoListIsShared(t *testing.T) {
	a, b := tables()
	for i, told := range calls(a, b) {
		seen := map[*api.Value]int{}
		var look func(l []api.Value)
		look = func(l []api.Value) {
			l = l[:cap(l)]
			for j := range l {
				seen[&l[j]]++
				look(l[j].List)
			}
		}
		for _, r := range told.Rows {
			look(r)
		}
		for _, often := range seen {
			if often > 1 {
				t.Errorf("answer %d has a value in two lists", i)
				break
			}
		}
	}
}

// TestTextsWrittenOver: P9.6: R2: texts, too, are new memory.
func TestTextsWrittenOver(t *testing.T) {
	var lent [][]byte
	lend := func(s string) string {
		b := []byte(s)
		lent = append(lent, b)
		return unsafe.String(&b[0], len(b))
	}
	a := api.Table{Vars: []string{lend("x"), lend("y")}, Rows: [][]api.Value{row(text(lend("t")), several(lit(lend("l"), lend("@en")))), row(text(lend("t")), none), row(lit(lend("m"), lend("@de")), none)}}
	b := api.Table{Vars: []string{lend("x"), lend("z")}, Rows: [][]api.Value{row(text(lend("t")), iri(lend("i"))), row(none, blank(lend("b")))}}
	told := append(calls(a, b), Project(a, []string{lend("z"), lend("x")}))
	var shown []string
	for _, x := range told {
		shown = append(shown, show(x))
	}
	for _, l := range lent {
		for i := range l {
			l[i] = '~'
		}
	}
	for i, x := range told {
		if show(x) != shown[i] {
			t.Errorf("answer %d: %s, want %s", i, show(x), shown[i])
		}
	}
}

// TestEmptyLists: P9.6: R2: nil and empty lists are one.
func TestEmptyLists(t *testing.T) {
	empty := api.Table{Vars: []string{}, Rows: [][]api.Value{{}, nil, {}}}
	null := api.Table{Rows: [][]api.Value{nil, {}, nil}}
	if !Same(empty, null) || answers(empty, null) != answers(null, empty) || len(Distinct(empty).Rows) != 1 {
		t.Error("rows without cells")
	}
	a := api.Table{Vars: []string{"x"}, Rows: [][]api.Value{row(api.Value{Kind: api.KList, List: []api.Value{}}), row(api.Value{Kind: api.KInt, List: []api.Value{}})}}
	b := api.Table{Vars: []string{"x"}, Rows: [][]api.Value{row(api.Value{Kind: api.KList}), row(api.Value{Kind: api.KInt})}}
	if !Check(a) || !Same(a, b) || answers(a, b) != answers(b, a) || len(Join(a, b).Rows) != 2 {
		t.Error("values with empty lists")
	}
}

// TestEnds: P9.6: R3: calls on great and on strange tables end.
func TestEnds(t *testing.T) {
	nested := several()
	for range 1 << 15 {
		nested = several(nested)
	}
	strange := api.Table{Vars: []string{"x"}, Rows: [][]api.Value{row(nested), row(nested)}}
	if Check(strange) || Compare(0, strange.Rows[0], strange.Rows[1]) != 0 {
		t.Error("lists deep in one another")
	}
	many := api.Table{Vars: slices.Repeat([]string{"x"}, 1<<20)}
	if Check(many) || len(Project(table("x", "1"), many.Vars).Vars) != 0 {
		t.Error("a variable many times over")
	}
	const n = 60000
	a, b := api.Table{Vars: []string{"x", "y"}}, api.Table{Vars: []string{"y", "z"}}
	for i := range int64(n) {
		a.Rows = append(a.Rows, row(whole(i), text(strconv.FormatInt(i, 10))))
		b.Rows = append(b.Rows, row(text(strconv.FormatInt(n-1-i, 10)), exact("0.5")))
	}
	if j, m := Join(a, b), Minus(a, b); len(j.Rows) != n || len(m.Rows) != 0 || j.Rows[7][0].Int != 7 {
		t.Errorf("great tables: %d, %d", len(j.Rows), len(m.Rows))
	}
	if u := Union(a, b); len(u.Rows) != 2*n || len(Distinct(u).Rows) != 2*n || !Same(Canon(0, u), u) {
		t.Error("the union of great tables")
	}
}

// TestAskedAtOnce: P9.6: R6: calls that run at once tell what they tell one by one.
func TestAskedAtOnce(t *testing.T) {
	a, b := tables()
	want := answers(a, b)
	told := make(chan string)
	for range 8 {
		go func() { told <- answers(a, b) }()
	}
	for range 8 {
		if <-told != want {
			t.Error("at once the answers are others")
		}
	}
}

// TestFace: the face stands as it is given.
func TestFace(t *testing.T) {
	var (
		_ func(api.Table) bool                      = Check
		_ func(int, []api.Value, []api.Value) int   = Compare
		_ func(int, api.Table) api.Table            = Canon
		_ func(api.Table, api.Table) bool           = Same
		_ func(api.Table, api.Table, int, int) bool = Fits
		_ func(api.Table, api.Table) api.Table      = Join
		_ func(api.Table, api.Table) api.Table      = Union
		_ func(api.Table, api.Table) api.Table      = Minus
		_ func(api.Table, []string) api.Table       = Project
		_ func(api.Table) api.Table                 = Distinct
	)
}
