package join

import (
	"errors"
	"fmt"
	"reflect"
	"strings"
	"sync"
	"testing"
	"unsafe"

	"diptych/api"
	"diptych/expr"
	"diptych/triples"
)

// cloned tells v in memory of its own, each list in one that goes on so far behind its length.
func cloned(v reflect.Value, behind int) reflect.Value {
	c := reflect.New(v.Type()).Elem()
	switch v.Kind() {
	case reflect.Struct:
		for i := range v.NumField() {
			c.Field(i).Set(cloned(v.Field(i), behind))
		}
	case reflect.Slice:
		if v.Len() > 0 {
			c.Set(reflect.MakeSlice(v.Type(), v.Len(), v.Len()+behind))
		}
		for i := range v.Len() {
			c.Index(i).Set(cloned(v.Index(i), behind))
		}
	case reflect.String:
		c.SetString(strings.Clone(v.String()))
	default:
		c.Set(v)
	}
	return c
}

func copied[T any](v T, behind int) T {
	return cloned(reflect.ValueOf(v), behind).Interface().(T)
}

// behindIsLeft tells whether what stands behind the lengths is zero still.
func behindIsLeft(v reflect.Value) bool {
	switch v.Kind() {
	case reflect.Slice:
		all := v.Slice(0, v.Cap())
		for i := range v.Cap() {
			if i < v.Len() && !behindIsLeft(all.Index(i)) || i >= v.Len() && !all.Index(i).IsZero() {
				return false
			}
		}
	case reflect.Struct:
		for i := range v.NumField() {
			if !behindIsLeft(v.Field(i)) {
				return false
			}
		}
	}
	return true
}

// spoil writes over all lists in v, and over what lies behind their lengths.
func spoil(v reflect.Value) {
	switch v.Kind() {
	case reflect.Slice:
		all := v.Slice(0, v.Cap())
		for i := range v.Cap() {
			spoil(all.Index(i))
			all.Index(i).SetZero()
		}
	case reflect.Struct:
		for i := range v.NumField() {
			spoil(v.Field(i))
		}
	}
}

// handed is what the calls are handed in.
type handed struct {
	A, B     api.Table
	On       api.Expr
	Patterns []api.Pattern
	Order    []string
}

func someHanded() handed {
	a := table("x y z", "[1,['in',<l>]] 't' -", "- - -", "[1,['in',<l>]] 't' -", "<i> - []", "5 't' _b")
	b := table("q y x", "0.5 't' [1,['in',<l>]]", "[1] - -", "- 't' 5", "[2,[3]] 'u' [1]")
	on := op(api.EOr, op(api.EIsNull, at("y")), op(api.EOr, op(api.EEq, at("z"), lit(list(list(text("e"))))), op(api.ENe, at("y"), lit(text("e")))))
	return copied(handed{a, b, on, patterns("?x p ?y . ?y ?p ?z . ?z q 'end'"), []string{"p", "z", "x", "y"}}, 0)
}

func someStore() *triples.Store {
	s, _ := triples.Load(facts("a p b . b p c . b q d . c q 'end' . d q 'end' . c p d . d p d"))
	return s
}

// calls tells what every call tells of h.
func calls(h handed, s *triples.Store) []api.Table {
	c, cErr := Left(api.LangC, h.A, h.B, h.On, aWorld())
	l, lErr := Left(api.LangS, h.B, h.A, h.On, aWorld())
	trie, err := Trie(s, h.Patterns, h.Order, 20)
	if cErr != api.OK || lErr != api.OK || err != api.OK {
		panic(fmt.Sprint(cErr, lErr, err))
	}
	return []api.Table{Hash(h.A, h.B), Hash(h.B, h.A), Loop(h.A, h.B), Loop(h.B, h.A), c, l, Semi(h.A, h.B), Semi(h.B, h.A), Anti(h.A, h.B), Anti(h.B, h.A), Minus(h.A, h.B), Minus(h.B, h.A), trie}
}

func shown(tables []api.Table) string {
	var l []string
	for _, t := range tables {
		l = append(l, show(t))
	}
	return strings.Join(l, "\n")
}

// TestHandedInIsLeft: P13.5: R2: what is handed in stays, and what lies behind its lists is neither read nor written.
func TestHandedInIsLeft(t *testing.T) {
	s := someStore()
	tables := calls(someHanded(), s)
	want := shown(tables)
	for _, i := range []int{0, 4, 5, 12} {
		if len(tables[i].Rows) < 4 {
			t.Fatalf("there is too little to look at: %s", show(tables[i]))
		}
	}
	h := copied(someHanded(), 3)
	before := copied(h, 3)
	if got := shown(calls(h, s)); got != want {
		t.Errorf("with lists that go on: %s; want %s", got, want)
	}
	if !reflect.DeepEqual(h, before) || !behindIsLeft(reflect.ValueOf(h)) {
		t.Error("what was handed in is changed")
	}
	if got := shown(calls(h, s)); got != want {
		t.Errorf("a second time: %s; want %s", got, want)
	}
}

// TestWrittenOver: P13.5: R2: what was handed in, and what was told, may be written over.
func TestWrittenOver(t *testing.T) {
	h, s := someHanded(), someStore()
	tables := calls(h, s)
	want := shown(tables)
	for _, told := range calls(h, s) {
		spoil(reflect.ValueOf(told))
	}
	if got := shown(calls(h, s)); got != want {
		t.Errorf("what was told shares memory with what was handed in: %s; want %s", got, want)
	}
	spoil(reflect.ValueOf(h))
	if got := shown(tables); got != want {
		t.Errorf("what was told is another now: %s; want %s", got, want)
	}
}

// TestOrderWrittenOver: P13.5: R2: the order that was handed in, where there is no row, too.
func TestOrderWrittenOver(t *testing.T) {
	for _, l := range []string{"?x p ?y", "?x nowhere ?y", "?x p ?y . nowhere p b"} {
		order := []string{"y", "x"}
		told, err := Trie(someStore(), patterns(l), order, 20)
		order[0] = "z"
		if err != api.OK || strings.Join(told.Vars, " ") != "y x" {
			t.Errorf("%s: %v, %d", l, told.Vars, err)
		}
		told.Vars[1] = "w"
		if order[1] != "x" {
			t.Errorf("%s: the order shares memory with the answer", l)
		}
	}
}

// TestNoListIsShared: P13.5: R2: no two lists of one answer share memory.
func TestNoListIsShared(t *testing.T) {
	for i, told := range calls(someHanded(), someStore()) {
		seen := map[*api.Value]int{}
		var look func(l []api.Value)
		look = func(l []api.Value) {
			l = l[:cap(l)]
			for j := range l {
				seen[&l[j]]++
				look(l[j].List)
			}
		}
		for _, r := range told.Rows {
			look(r)
		}
		for _, often := range seen {
			if often > 1 {
				t.Errorf("answer %d has a value in two lists", i)
				break
			}
		}
	}
}

// TestTextsWrittenOver: P13.5: R2: texts whose bytes their owner takes back.
func TestTextsWrittenOver(t *testing.T) {
	var lent [][]byte
	lend := func(s string) string {
		b := []byte(s)
		lent = append(lent, b)
		return unsafe.String(&b[0], len(b))
	}
	a := api.Table{Vars: []string{lend("x"), lend("y")}, Rows: [][]api.Value{{text(lend("t")), list(tagged(lend("l"), lend("@en")))}, {tagged(lend("m"), lend("@de")), none}}}
	b := api.Table{Vars: []string{lend("x"), lend("z")}, Rows: [][]api.Value{{text(lend("t")), iri(lend("i"))}, {none, blank(lend("b"))}}}
	s, _ := triples.Load([]api.Triple{{S: iri(lend("s")), P: iri(lend("p")), O: tagged(lend("l"), lend("@en"))}})
	variable, other := api.Value{Text: lend("x")}, api.Value{Text: lend("y")}
	tables := calls(handed{a, b, op(api.EIsNull, at(lend("z"))), []api.Pattern{{S: variable, P: iri(lend("p")), O: other}}, []string{lend("y"), lend("x")}}, s)
	if len(tables[0].Rows) != 3 || len(tables[12].Rows) != 1 {
		t.Fatalf("there is too little to look at: %s", shown(tables))
	}
	want := shown(tables)
	for _, l := range lent {
		for i := range l {
			l[i] = '~'
		}
	}
	if got := shown(tables); got != want {
		t.Errorf("texts are shared: %s; want %s", got, want)
	}
}

// breaking is an Env whose calls panic with what it is.
type breaking struct{ with any }

func (p breaking) Var(string) api.Value              { panic(p.with) }
func (p breaking) Prop(api.Value, string) api.Value  { panic(p.with) }
func (p breaking) Exists(api.Plan) (bool, api.Errno) { panic(p.with) }

// TestBreaking: P13.5: R3: an Env that panics, a nil pointer in one among them, makes no call panic.
func TestBreaking(t *testing.T) {
	var noWorld *world
	a, b := table("x", "0", "1"), table("x", "1")
	for _, env := range []expr.Env{noWorld, breaking{"broken"}, breaking{errors.New("broken")}, breaking{nil}, breaking{api.ErrBudget}} {
		for _, lang := range langs {
			for _, on := range []api.Expr{exists(api.PUnit), op(api.EIsNull, at("missing"))} {
				if told, err := Left(lang, a, b, on, env); err != api.ErrArg || !isZero(told) {
					t.Errorf("an Env that panics in %d: %s, %d; want ErrArg", lang, show(told), err)
				}
				if told, err := Left(lang, a, table("x", "2"), on, env); err != api.OK || len(told.Rows) != 2 {
					t.Errorf("an Env that is not asked in %d: %s, %d", lang, show(told), err)
				}
			}
		}
	}
}

// TestEnds: P13.5: R3: expressions and values in themselves, names many times over.
func TestEnds(t *testing.T) {
	good := table("x", "1")
	round := make([]api.Expr, 1)
	for _, o := range []int{api.ENot, api.EList, api.EAgg, api.EIsNull, api.EVar} {
		round[0] = api.Expr{Op: o, Text: "x", Args: round}
		for _, lang := range langs {
			if told, err := Left(lang, good, good, round[0], aWorld()); err != api.ErrArg || !isZero(told) {
				t.Errorf("a condition in itself: %d", err)
			}
		}
	}
	cells := make([]api.Value, 1)
	cells[0] = list(cells...)
	cells[0].List = cells
	many := api.Table{Vars: strings.Split(strings.Repeat("x", 1<<20), "")}
	for _, bad := range []api.Table{{Vars: []string{"x"}, Rows: [][]api.Value{cells}}, many} {
		left, err := Left(api.LangC, bad, good, yes, aWorld())
		for _, told := range []api.Table{Hash(bad, good), Loop(good, bad), Semi(bad, bad), Anti(good, bad), Minus(bad, good), left} {
			if !isZero(told) || err != api.OK {
				t.Errorf("a table that may not be: %s, %d", short(show(told)), err)
			}
		}
	}
	s := someStore()
	if told, err := Trie(s, []api.Pattern{{S: api.Value{Text: "x"}, P: iri("p"), O: cells[0]}}, many.Vars, 1); err != api.ErrArg || !isZero(told) {
		t.Errorf("a value in itself: %d", err)
	}
	if told, err := Trie(s, make([]api.Pattern, 1<<20), many.Vars, 1); err != api.ErrArg || !isZero(told) {
		t.Errorf("very many patterns: %d", err)
	}
}

// TestAskedAtOnce: R6: calls may be made from many goroutines, over one store.
func TestAskedAtOnce(t *testing.T) {
	h, s := someHanded(), someStore()
	want := shown(calls(h, s))
	var group sync.WaitGroup
	for range 8 {
		group.Go(func() {
			for range 20 {
				if shown(calls(h, s)) != want {
					t.Error("another answer beside other goroutines")
				}
			}
		})
	}
	group.Wait()
}

// TestNil: P13.5: R2: nil and empty lists are one.
func TestNil(t *testing.T) {
	empty := api.Table{Vars: []string{}, Rows: [][]api.Value{{}, nil}}
	for _, f := range []func(a, b api.Table) api.Table{Hash, Loop, Semi, Minus} {
		if told := f(empty, api.Table{Rows: [][]api.Value{nil}}); len(told.Rows) != 2 || len(told.Vars) != 0 {
			t.Errorf("rows without cells: %s", show(told))
		}
	}
	a := api.Table{Vars: []string{"x"}, Rows: [][]api.Value{{{Kind: api.KList, List: []api.Value{}}}, {{Kind: api.KNull, List: []api.Value{}}}}}
	b := api.Table{Vars: []string{"x"}, Rows: [][]api.Value{{{Kind: api.KList}}}}
	for i, told := range []api.Table{Hash(a, b), Loop(b, a), Semi(a, b), Hash(b, a)} {
		if len(told.Rows) != 2 {
			t.Errorf("empty lists, %d: %s", i, show(told))
		}
	}
	s, variable := someStore(), api.Value{Text: "x", List: []api.Value{}}
	told, err := Trie(s, []api.Pattern{{S: variable, P: iri("q"), O: api.Value{Kind: api.KText, Text: "end", List: []api.Value{}}}}, []string{"x"}, 9)
	if err != api.OK || len(told.Rows) != 2 {
		t.Errorf("a pattern with empty lists: %s, %d", show(told), err)
	}
	for _, l := range [][]api.Pattern{nil, {}} {
		for _, order := range [][]string{nil, {}} {
			if told, err := Trie(s, l, order, 1); err != api.OK || len(told.Rows) != 1 {
				t.Errorf("no pattern: %s, %d", show(told), err)
			}
		}
	}
}

// TestFace: the face is the skeleton's.
func TestFace(t *testing.T) {
	var (
		_ func(a, b api.Table) api.Table                                                           = Hash
		_ func(a, b api.Table) api.Table                                                           = Loop
		_ func(lang int, a, b api.Table, on api.Expr, env expr.Env) (api.Table, api.Errno)         = Left
		_ func(a, b api.Table) api.Table                                                           = Semi
		_ func(a, b api.Table) api.Table                                                           = Anti
		_ func(a, b api.Table) api.Table                                                           = Minus
		_ func(s *triples.Store, l []api.Pattern, order []string, most int) (api.Table, api.Errno) = Trie
	)
}
