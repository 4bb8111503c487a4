package batch

import (
	"errors"
	"fmt"
	"reflect"
	"slices"
	"strings"
	"sync"
	"testing"
	"unsafe"

	"diptych/api"
	"diptych/expr"
	"diptych/value"
)

// rich tells a table with lists, texts, the same rows and unbound cells in it.
func rich() api.Table {
	a := table("x y z", "[1,['in',<l>]] 't' -", "- - -", "[1,['in',<l>]] 't' -", "<i> - []", "5 't' 0.5")
	a.Rows[4][2] = tagged("l", "en")
	return cloned(reflect.ValueOf(a), 0).Interface().(api.Table)
}

// cloned tells v in memory of its own, each list in one that goes on so far behind its length.
func cloned(v reflect.Value, behind int) reflect.Value {
	c := reflect.New(v.Type()).Elem()
	switch v.Kind() {
	case reflect.Struct:
		for i := range v.NumField() {
			c.Field(i).Set(cloned(v.Field(i), behind))
		}
	case reflect.Slice:
		if v.Len() > 0 {
			c.Set(reflect.MakeSlice(v.Type(), v.Len(), v.Len()+behind))
		}
		for i := range v.Len() {
			c.Index(i).Set(cloned(v.Index(i), behind))
		}
	case reflect.String:
		c.SetString(strings.Clone(v.String()))
	default:
		c.Set(v)
	}
	return c
}

func copied[T any](v T, behind int) T {
	return cloned(reflect.ValueOf(v), behind).Interface().(T)
}

// behindIsLeft tells whether what stands behind the lengths is zero still.
func behindIsLeft(v reflect.Value) bool {
	switch v.Kind() {
	case reflect.Slice:
		all := v.Slice(0, v.Cap())
		for i := range v.Cap() {
			if i < v.Len() && !behindIsLeft(all.Index(i)) || i >= v.Len() && !all.Index(i).IsZero() {
				return false
			}
		}
	case reflect.Struct:
		for i := range v.NumField() {
			if !behindIsLeft(v.Field(i)) {
				return false
			}
		}
	}
	return true
}

// handed is what the calls are handed in.
type handed struct {
	T       api.Table
	At      []int
	Vars    []string
	E, List api.Expr
}

func someHanded() handed {
	return handed{rich(), []int{0, 2, 3, 4}, []string{"z", "e", "n", "x"}, op(api.EList, lit(list(text("lit"), list(num(1)))), at("x"), at("l")), op(api.EAdd, lit(list(list(text("lit")))), at("l"))}
}

// calls makes a batch of h and tells it, what was unwound of it and all tables, having called everything.
func calls(h handed, w *world) (*Batch, *Batch, []api.Table) {
	b, _ := Of(h.T)
	b.Choose(h.At)
	b.Extend(api.LangC, "e", h.E, w)
	b.Filter(api.LangC, op(api.EOr, op(api.EEq, h.E, h.E), yes), w)
	u, _ := b.Unwind(api.LangC, "u", h.List, w)
	c, _ := Of(h.T)
	c.Project(h.Vars)
	l, _ := Cut(h.T, 2)
	tables := []api.Table{b.Table(), u.Table(), c.Table(), Paste(h.Vars, []*Batch{u, nil, b, b}), Paste(h.T.Vars, l)}
	return b, u, tables
}

func everything(tables []api.Table) string {
	var l []string
	for _, t := range tables {
		l = append(l, show(t))
	}
	return strings.Join(l, "\n")
}

// TestHandedInIsLeft: P12.5: R2: what is handed in stays, and what lies behind its lists is neither read nor written.
func TestHandedInIsLeft(t *testing.T) {
	_, _, tables := calls(someHanded(), aWorld())
	want := everything(tables)
	if len(tables[1].Rows) != 12 || len(tables[3].Rows) != 20 {
		t.Fatalf("there is too little to look at: %s", want)
	}
	h := copied(someHanded(), 3)
	before := copied(h, 3)
	_, _, tables = calls(h, aWorld())
	if got := everything(tables); got != want {
		t.Errorf("with lists that go on: %s; want %s", got, want)
	}
	if !reflect.DeepEqual(h, before) || !behindIsLeft(reflect.ValueOf(h)) {
		t.Error("what was handed in is changed")
	}
}

// spoil writes over all lists in v, and over what lies behind their lengths.
func spoil(v reflect.Value) {
	switch v.Kind() {
	case reflect.Slice:
		all := v.Slice(0, v.Cap())
		for i := range v.Cap() {
			spoil(all.Index(i))
			all.Index(i).SetZero()
		}
	case reflect.Struct:
		for i := range v.NumField() {
			spoil(v.Field(i))
		}
	}
}

// TestWrittenOver: P12.5: R2: what was handed in, and what was told, may be written over.
func TestWrittenOver(t *testing.T) {
	h, w := someHanded(), aWorld()
	b, u, tables := calls(h, w)
	want := everything(tables)
	spoil(reflect.ValueOf(h))
	spoil(reflect.ValueOf(w.vars["l"]))
	if got := everything(tables); got != want {
		t.Errorf("what was told shares memory with what was handed in: %s; want %s", got, want)
	}
	same := func(what string) {
		t.Helper()
		is(t, what, b.Table(), tables[0])
		is(t, what, u.Table(), tables[1])
		if !slices.Equal(b.Chosen(), []int{0, 2, 3, 4}) || !slices.Equal(u.Chosen(), upTo(12)) {
			t.Errorf("%s: chosen are %v, %v", what, b.Chosen(), u.Chosen())
		}
	}
	same("what was handed in is written over")
	for _, told := range []any{b.Table(), u.Table(), b.Chosen(), u.Chosen(), Paste(tables[0].Vars, []*Batch{b, u}), Paste(tables[1].Vars, []*Batch{u, b})} {
		spoil(reflect.ValueOf(told))
	}
	same("what was told is written over")
}

// TestChosenWrittenOver: P12.5: R2: the numbers that were handed in and told.
func TestChosenWrittenOver(t *testing.T) {
	b := of(t, table("x", "0", "1", "2", "3"))
	numbers := []int{1, 2, 3}
	b.Choose(numbers)
	numbers[0] = 0
	told := b.Chosen()
	told[1] = 0
	holds(t, "numbers that were written over", b, table("x", "1", "2", "3"), 1, 2, 3)
	b.Choose([]int{2})
	if !slices.Equal(told, []int{1, 0, 3}) {
		t.Errorf("numbers that were told are %v now", told)
	}
}

// TestNoListIsShared: P12.5: R2: no two lists of one answer share memory.
func TestNoListIsShared(t *testing.T) {
	_, _, tables := calls(someHanded(), aWorld())
	for i, told := range tables {
		seen := map[*api.Value]int{}
		var look func(l []api.Value)
		look = func(l []api.Value) {
			l = l[:cap(l)]
			for j := range l {
				seen[&l[j]]++
				look(l[j].List)
			}
		}
		for _, r := range told.Rows {
			look(r)
		}
		for _, often := range seen {
			if often > 1 {
				t.Errorf("table %d has a value in two lists", i)
				break
			}
		}
	}
}

func lent(b []byte) string { return unsafe.String(&b[0], len(b)) }

// TestTextsWrittenOver: P12.5: R2: texts whose bytes their owner takes back.
func TestTextsWrittenOver(t *testing.T) {
	bytes := []byte("abc")
	s := lent(bytes)
	a := api.Table{Vars: []string{s}, Rows: [][]api.Value{{text(s)}, {list(tagged(s, s))}}}
	w := &world{vars: map[string]api.Value{"w": text(s)}}
	b, _ := Of(a)
	l, _ := Cut(a, 1)
	u, _ := b.Unwind(api.LangC, s+"u", lit(list(text(s))), w)
	short := of(t, api.Table{Rows: make([][]api.Value, 1)})
	unwound, _ := short.Unwind(api.LangC, s, lit(list(text(s))), w)
	short.Extend(api.LangC, s, at("w"), w)
	moved := of(t, table("x", "1"))
	moved.Project([]string{s})
	pasted := Paste([]string{s}, l)
	copy(bytes, "xyz")
	want := api.Table{Vars: []string{"abc"}, Rows: [][]api.Value{{text("abc")}, {list(tagged("abc", "abc"))}}}
	is(t, "Of", b.Table(), want)
	is(t, "Paste of Cut", pasted, want)
	is(t, "Extend", short.Table(), table("abc", "'abc'"))
	is(t, "Unwind by that name", unwound.Table(), table("abc", "'abc'"))
	is(t, "Project", moved.Table(), table("abc", "-"))
	u.Project([]string{"abcu", "abc"})
	is(t, "Unwind", u.Table(), api.Table{Vars: []string{"abcu", "abc"}, Rows: [][]api.Value{{text("abc"), text("abc")}, {text("abc"), want.Rows[1][0]}}})
	first, second := b.Table(), b.Table()
	if unsafe.StringData(first.Rows[0][0].Text) == unsafe.StringData(second.Rows[0][0].Text) || unsafe.StringData(first.Vars[0]) == unsafe.StringData(second.Vars[0]) {
		t.Error("two answers share a text")
	}
}

// TestAlone: P12.5: R2: batches know nothing of one another.
func TestAlone(t *testing.T) {
	a := table("x l y", "1 [1,2] -", "2 [3] -", "3 [4] -") // three variables: lists of them are likely to have room behind
	b, other := of(t, a), of(t, a)
	l, _ := Cut(a, 2)
	u, _ := b.Unwind(api.LangC, "u", at("l"), nothing{})
	v, _ := b.Unwind(api.LangC, "v", at("l"), nothing{})
	b.Extend(api.LangC, "e", lit(num(0)), nothing{})
	u.Extend(api.LangC, "more", lit(num(1)), nothing{})
	u.Choose([]int{0, 3})
	b.Filter(api.LangC, op(api.EGt, at("x"), lit(num(2))), nothing{})
	v.Extend(api.LangC, "other", lit(num(2)), nothing{})
	holds(t, "the batch, extended", b, table("x l y e", "3 [4] - 0"), 2)
	b.Project([]string{"l"})
	b.Extend(api.LangC, "x", lit(num(9)), nothing{})
	l[0].Choose([]int{1})
	l[0].Extend(api.LangC, "z", lit(num(8)), nothing{})
	holds(t, "what is unwound", u, table("x l y u more", "1 [1,2] - 1 1", "3 [4] - 4 1"), 0, 3)
	holds(t, "what is unwound again", v, table("x l y v other", "1 [1,2] - 1 2", "1 [1,2] - 2 2", "2 [3] - 3 2", "3 [4] - 4 2"), 0, 1, 2, 3)
	holds(t, "the batch", b, table("l x", "[4] 9"), 2)
	holds(t, "one of the same table", other, a, 0, 1, 2)
	holds(t, "a batch of a Cut", l[0], table("x l y z", "2 [3] - 8"), 1)
	holds(t, "the one behind it", l[1], table("x l y", "3 [4] -"), 0)
}

// breaking is an Env whose calls panic with what it is.
type breaking struct{ with any }

func (p breaking) Var(string) api.Value              { panic(p.with) }
func (p breaking) Prop(api.Value, string) api.Value  { panic(p.with) }
func (p breaking) Exists(api.Plan) (bool, api.Errno) { panic(p.with) }

// TestBreaking: P12.5: R3: an Env that panics, a nil pointer in one among them, makes no call panic.
func TestBreaking(t *testing.T) {
	var noWorld *world
	isTwo := op(api.EEq, at("x"), lit(num(2)))
	e := op(api.ECase, isTwo, at("missing"), lit(read("[1]")))
	for _, env := range []expr.Env{noWorld, breaking{"broken"}, breaking{errors.New("broken")}, breaking{nil}, breaking{api.ErrBudget}} {
		for _, lang := range langs {
			what := fmt.Sprintf("an Env that panics in %d", lang)
			refuses(t, what, of(t, table("x", "0", "1")), lang, exists(api.PUnit), env)
			b := of(t, table("x", "0", "1", "2", "3"), 1, 2, 3)
			refusesName(t, what, b, "new", lang, e, env)
			if err := b.Filter(lang, op(api.ECase, isTwo, at("missing"), yes), env); err != api.ErrArg {
				t.Errorf("Filter, %s: %d; want ErrArg", what, err)
			}
			holds(t, what, b, table("x", "1", "2", "3"), 1, 2, 3)
			b = of(t, table("x", "0", "1", "2"), 0, 1)
			u, err := b.Unwind(lang, "u", e, env)
			if b.Extend(lang, "y", e, env) != api.OK || b.Filter(lang, yes, env) != api.OK || err != api.OK {
				t.Errorf("an Env that is not asked for what makes it panic is refused in %d", lang)
			}
			holds(t, "Extend", b, table("x y", "0 [1]", "1 [1]"), 0, 1)
			holds(t, "Unwind", u, table("x u", "0 1", "1 1"), 0, 1)
		}
	}
}

// TestEnds: P12.5: R3: expressions and values in themselves.
func TestEnds(t *testing.T) {
	round := make([]api.Expr, 1)
	for _, o := range []int{api.ENot, api.EList, api.EAgg, api.EIsNull, api.EVar} {
		round[0] = api.Expr{Op: o, Text: "x", Args: round}
		for _, lang := range langs {
			refuses(t, "an expression in itself", of(t, table("x", "1")), lang, round[0], aWorld())
		}
	}
	cells := make([]api.Value, 1)
	cells[0] = list(cells...)
	cells[0].List = cells
	if b, err := Of(api.Table{Vars: []string{"x"}, Rows: [][]api.Value{cells}}); b != nil || err != api.ErrArg {
		t.Errorf("Of a list in itself: %v, %d", b, err)
	}
	b := of(t, table("x", "1"))
	w := &world{vars: map[string]api.Value{"w": cells[0]}}
	u, err := b.Unwind(api.LangC, "y", at("w"), w)
	if b.Extend(api.LangC, "y", at("w"), w) != api.OK || err != api.OK {
		t.Errorf("Unwind of env's list in itself: %d", err)
	}
	holds(t, "env's list in itself", b, table("x y", "1 -"), 0)
	holds(t, "env's list in itself", u, table("x y"))
}

// TestAskedAtOnce: R6: calls that change nothing may be made from many goroutines.
func TestAskedAtOnce(t *testing.T) {
	b := of(t, rich(), 0, 3)
	want := show(b.Table())
	var group sync.WaitGroup
	for range 8 {
		group.Go(func() {
			for range 100 {
				u, err := b.Unwind(api.LangC, "u", lit(read("[1,2]")), nothing{})
				if show(b.Table()) != want || b.Len() != 2 || !slices.Equal(b.Chosen(), []int{0, 3}) || err != api.OK || u.Len() != 4 || len(Paste([]string{"x"}, []*Batch{b, b}).Rows) != 4 {
					t.Error("another answer beside other goroutines")
				}
			}
		})
	}
	group.Wait()
}

// TestNil: P12.5: R2: nil and empty lists are one.
func TestNil(t *testing.T) {
	for _, a := range []api.Table{{}, {Vars: []string{}, Rows: [][]api.Value{}}} {
		b := of(t, a)
		if b.Project(nil) != api.OK || b.Project([]string{}) != api.OK || b.Choose(nil) != api.OK || b.Choose([]int{}) != api.OK {
			t.Error("an empty list is refused")
		}
		holds(t, "nothing", b, api.Table{})
		if l, err := Cut(a, 1); len(l) != 0 || err != api.OK {
			t.Errorf("Cut of no rows: %v, %d", l, err)
		}
	}
	b := of(t, api.Table{Vars: []string{"x"}, Rows: [][]api.Value{{{Kind: api.KList}}, {{Kind: api.KList, List: []api.Value{}}}, {{List: []api.Value{}}}}})
	b.Filter(api.LangC, op(api.EEq, at("x"), lit(list())), nothing{})
	holds(t, "empty lists", b, table("x", "[]", "[]"), 0, 1)
	if !value.Same(b.Table().Rows[0][0], b.Table().Rows[1][0]) {
		t.Error("empty lists are not the same")
	}
}

// TestFace: the face is the skeleton's.
func TestFace(t *testing.T) {
	var calls []string
	kind := reflect.TypeFor[*Batch]()
	for i := range kind.NumMethod() {
		calls = append(calls, kind.Method(i).Name)
	}
	if want := strings.Fields("Choose Chosen Extend Filter Len Project Table Unwind"); !slices.Equal(calls, want) {
		t.Errorf("methods of Batch: %v; want %v", calls, want)
	}
	for i := range kind.Elem().NumField() {
		if f := kind.Elem().Field(i); f.IsExported() {
			t.Errorf("Batch shows %s", f.Name)
		}
	}
	var makes func(api.Table) (*Batch, api.Errno) = Of
	var cuts func(api.Table, int) ([]*Batch, api.Errno) = Cut
	var pastes func([]string, []*Batch) api.Table = Paste
	if makes == nil || cuts == nil || pastes == nil {
		t.Error("a call of the face is missing")
	}
}
