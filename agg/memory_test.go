package agg

import (
	"errors"
	"reflect"
	"slices"
	"strings"
	"sync"
	"testing"
	"unsafe"

	"diptych/api"
	"diptych/expr"
)

// cloned tells v in memory of its own, each list in one that goes on so far behind its length.
func cloned(v reflect.Value, behind int) reflect.Value {
	c := reflect.New(v.Type()).Elem()
	switch v.Kind() {
	case reflect.Struct:
		for i := range v.NumField() {
			c.Field(i).Set(cloned(v.Field(i), behind))
		}
	case reflect.Slice:
		if v.Len() > 0 {
			c.Set(reflect.MakeSlice(v.Type(), v.Len(), v.Len()+behind))
		}
		for i := range v.Len() {
			c.Index(i).Set(cloned(v.Index(i), behind))
		}
	case reflect.String:
		c.SetString(strings.Clone(v.String()))
	default:
		c.Set(v)
	}
	return c
}

func copied[T any](v T, behind int) T {
	return cloned(reflect.ValueOf(v), behind).Interface().(T)
}

// behindIsLeft tells whether what stands behind the lengths is zero still.
func behindIsLeft(v reflect.Value) bool {
	switch v.Kind() {
	case reflect.Slice:
		all := v.Slice(0, v.Cap())
		for i := range v.Cap() {
			if i < v.Len() && !behindIsLeft(all.Index(i)) || i >= v.Len() && !all.Index(i).IsZero() {
				return false
			}
		}
	case reflect.Struct:
		for i := range v.NumField() {
			if !behindIsLeft(v.Field(i)) {
				return false
			}
		}
	}
	return true
}

// spoil writes over all lists in v, and over what lies behind their lengths.
func spoil(v reflect.Value) {
	switch v.Kind() {
	case reflect.Slice:
		all := v.Slice(0, v.Cap())
		for i := range v.Cap() {
			spoil(all.Index(i))
			all.Index(i).SetZero()
		}
	case reflect.Struct:
		for i := range v.NumField() {
			spoil(v.Field(i))
		}
	}
}

// handed is what the calls are handed in.
type handed struct {
	T     api.Table
	Keys  []string
	Aggs  []api.Agg
	Sorts []api.Sort
}

func someHanded() handed {
	in := table("x y z", "[1,['in',<l>]] 't' -", "- - -", "[1,['in',<l>]] 't' -", "<i> - []", "5 't' _b", "[1,['in',<l>]] 'u' 2.0")
	l := slices.Concat(aggs("n:count k:collect:x m:max:x u:collect!:y"), of("min", op(api.EList, at("y"), lit(list(list(text("e")))))))
	return copied(handed{in, strings.Fields("z x"), l, append(sorts("-y x"), by(op(api.EEq, at("z"), lit(list(list(text("e"))))))...)}, 0)
}

// calls tells what every call tells of h.
func calls(h handed) []api.Table {
	group, err1 := Group(api.LangC, h.T, h.Keys, h.Aggs, aWorld())
	one, err2 := Group(api.LangC, h.T, nil, h.Aggs, aWorld())
	keys, err3 := Group(api.LangS, h.T, h.Keys, nil, aWorld())
	sorted, err4 := Sort(api.LangC, h.T, h.Sorts, aWorld())
	inS, err5 := Sort(api.LangS, h.T, h.Sorts, aWorld())
	top, err6 := Top(api.LangC, h.T, h.Sorts, 4, aWorld())
	all, err7 := Top(api.LangS, h.T, h.Sorts, 1<<40, aWorld())
	for _, err := range []api.Errno{err1, err2, err3, err4, err5, err6, err7} {
		if err != api.OK {
			panic(err)
		}
	}
	return []api.Table{group, one, keys, sorted, inS, top, all, Slice(h.T, 1, 3), Slice(h.T, -1, -1), Slice(h.T, 9, 9)}
}

func shown(tables []api.Table) string {
	var l []string
	for _, t := range tables {
		l = append(l, show(t))
	}
	return strings.Join(l, "\n")
}

// TestHandedInIsLeft: P14.3: R2: what is handed in stays, and what lies behind its lists is neither read nor written.
func TestHandedInIsLeft(t *testing.T) {
	tables := calls(someHanded())
	want := shown(tables)
	for i, least := range []int{5, 1, 5, 6, 6, 4, 6, 3, 6, 0} {
		if len(tables[i].Rows) != least {
			t.Fatalf("answer %d: %s; want %d rows", i, show(tables[i]), least)
		}
	}
	h := copied(someHanded(), 3)
	before := copied(h, 3)
	if got := shown(calls(h)); got != want {
		t.Errorf("with lists that go on: %s; want %s", got, want)
	}
	if !reflect.DeepEqual(h, before) || !behindIsLeft(reflect.ValueOf(h)) {
		t.Error("what was handed in is changed")
	}
	if got := shown(calls(h)); got != want {
		t.Errorf("a second time: %s; want %s", got, want)
	}
}

// TestWrittenOver: P14.3: R2: what was handed in, and what was told, may be written over.
func TestWrittenOver(t *testing.T) {
	h := someHanded()
	tables := calls(h)
	want := shown(tables)
	for _, told := range calls(h) {
		spoil(reflect.ValueOf(told))
	}
	if got := shown(calls(h)); got != want {
		t.Errorf("what was told shares memory with what was handed in: %s; want %s", got, want)
	}
	spoil(reflect.ValueOf(h))
	if got := shown(tables); got != want {
		t.Errorf("what was told is another now: %s; want %s", got, want)
	}
}

// TestNoListIsShared: P14.3: R2: no two lists of one answer share memory.
func TestNoListIsShared(t *testing.T) {
	for i, told := range calls(someHanded()) {
		seen := map[*api.Value]int{}
		var look func(l []api.Value)
		look = func(l []api.Value) {
			l = l[:cap(l)]
			for j := range l {
				seen[&l[j]]++
				look(l[j].List)
			}
		}
		for _, r := range told.Rows {
			look(r)
		}
		for _, often := range seen {
			if often > 1 {
				t.Errorf("answer %d has a value in two lists", i)
				break
			}
		}
	}
}

// TestTextsWrittenOver: P14.3: R2: texts whose bytes their owner takes back.
func TestTextsWrittenOver(t *testing.T) {
	var lent [][]byte
	lend := func(s string) string {
		b := []byte(s)
		lent = append(lent, b)
		return unsafe.String(&b[0], len(b))
	}
	in := api.Table{Vars: []string{lend("x"), lend("y")}, Rows: [][]api.Value{{text(lend("t")), list(tagged(lend("l"), lend("@en")))}, {tagged(lend("m"), lend("@de")), none}}}
	max := api.Expr{Op: api.EAgg, Text: lend("max"), Args: []api.Expr{at(lend("y"))}}
	all := api.Expr{Op: api.EAgg, Text: lend("collect"), Args: []api.Expr{at(lend("x"))}}
	fixed := api.Expr{Op: api.EAgg, Text: lend("min"), Args: []api.Expr{lit(text(lend("fixed")))}}
	h := handed{in, []string{lend("x")}, []api.Agg{{Var: lend("m"), E: max}, {Var: lend("k"), E: all}, {Var: lend("f"), E: fixed}}, by(at(lend("y")))}
	tables := calls(h)
	want := shown(tables)
	for _, l := range lent {
		for i := range l {
			l[i] = '~'
		}
	}
	if got := shown(tables); got != want {
		t.Errorf("texts are shared: %s; want %s", got, want)
	}
}

// breaking is an Env whose calls panic with what it is.
type breaking struct{ with any }

func (p breaking) Var(string) api.Value              { panic(p.with) }
func (p breaking) Prop(api.Value, string) api.Value  { panic(p.with) }
func (p breaking) Exists(api.Plan) (bool, api.Errno) { panic(p.with) }

// TestBreaking: P14.3: R3: an Env that panics, a nil pointer in one among them, makes no call panic.
func TestBreaking(t *testing.T) {
	var noWorld *world
	in := table("x", "0", "1")
	for _, env := range []expr.Env{noWorld, breaking{"broken"}, breaking{errors.New("broken")}, breaking{nil}, breaking{api.ErrBudget}} {
		for _, lang := range langs {
			for _, e := range []api.Expr{exists(api.PUnit), op(api.EIsNull, at("missing"))} {
				group, err1 := Group(lang, in, in.Vars, of("count", e), env)
				sorted, err2 := Sort(lang, in, by(e), env)
				top, err3 := Top(lang, in, by(e), 1, env)
				if err1 != api.ErrArg || err2 != api.ErrArg || err3 != api.ErrArg || !isZero(group) || !isZero(sorted) || !isZero(top) {
					t.Errorf("an Env that panics in %d: %d, %d, %d; want ErrArg", lang, err1, err2, err3)
				}
				if told, err := Group(lang, table("x"), nil, of("count", e), env); err != api.OK || len(told.Rows) != 1 {
					t.Errorf("an Env that is not asked in %d: %s, %d", lang, show(told), err)
				}
			}
			if told, err := Sort(lang, in, sorts("-x"), env); err != api.OK || told.Rows[0][0].Int != 1 {
				t.Errorf("an Env that is not asked in %d: %s, %d", lang, show(told), err)
			}
		}
	}
}

// TestEnds: P14.3: R3: expressions and values in themselves, names many times over.
func TestEnds(t *testing.T) {
	good := table("x", "1")
	round := make([]api.Expr, 1)
	for _, o := range []int{api.ENot, api.EList, api.EAgg, api.EIsNull, api.EVar} {
		round[0] = api.Expr{Op: o, Text: "max", Args: round}
		for _, lang := range langs {
			group, err1 := Group(lang, good, nil, []api.Agg{{Var: "a", E: round[0]}}, aWorld())
			inner, err2 := Group(lang, good, nil, of("max", round[0]), aWorld())
			sorted, err3 := Sort(lang, good, by(round[0]), aWorld())
			top, err4 := Top(lang, good, by(round[0]), 1, aWorld())
			if err1 != api.ErrArg || err2 != api.ErrArg || err3 != api.ErrArg || err4 != api.ErrArg || !isZero(group) || !isZero(inner) || !isZero(sorted) || !isZero(top) {
				t.Errorf("an expression in itself: %d, %d, %d, %d", err1, err2, err3, err4)
			}
		}
	}
	cells := make([]api.Value, 1)
	cells[0] = list(cells...)
	cells[0].List = cells
	many := api.Table{Vars: strings.Split(strings.Repeat("x", 1<<20), "")}
	for _, bad := range []api.Table{{Vars: []string{"x"}, Rows: [][]api.Value{cells}}, many} {
		group, err1 := Group(api.LangC, bad, nil, nil, aWorld())
		sorted, err2 := Sort(api.LangC, bad, by(yes), aWorld())
		top, err3 := Top(api.LangC, bad, by(yes), 1, aWorld())
		if err1 != api.ErrArg || err2 != api.ErrArg || err3 != api.ErrArg || !isZero(group) || !isZero(sorted) || !isZero(top) || !isZero(Slice(bad, 0, 0)) {
			t.Errorf("a table that may not be: %d, %d, %d", err1, err2, err3)
		}
	}
	group, err1 := Group(api.LangC, good, many.Vars, nil, aWorld())
	other, err2 := Group(api.LangC, good, nil, make([]api.Agg, 1<<20), aWorld())
	sorted, err3 := Sort(api.LangC, good, make([]api.Sort, 1<<20), aWorld())
	if err1 != api.ErrArg || err2 != api.ErrArg || err3 != api.ErrArg || !isZero(group) || !isZero(other) || !isZero(sorted) {
		t.Errorf("very many names: %d, %d, %d", err1, err2, err3)
	}
}

// TestAskedAtOnce: R6: calls may be made from many goroutines.
func TestAskedAtOnce(t *testing.T) {
	h := someHanded()
	want := shown(calls(h))
	var group sync.WaitGroup
	for range 8 {
		group.Go(func() {
			for range 20 {
				if shown(calls(h)) != want {
					t.Error("another answer beside other goroutines")
				}
			}
		})
	}
	group.Wait()
}

// TestNil: P14.3: R2: nil and empty lists are one.
func TestNil(t *testing.T) {
	empty := api.Table{Vars: []string{}, Rows: [][]api.Value{{}, nil}}
	for _, keys := range [][]string{nil, {}} {
		for _, l := range [][]api.Agg{nil, {}} {
			if told, err := Group(api.LangC, empty, keys, l, aWorld()); err != api.OK || len(told.Rows) != 1 || len(told.Vars) != 0 {
				t.Errorf("no keys: %s, %d", show(told), err)
			}
		}
	}
	if told := Slice(empty, 1, -1); len(told.Rows) != 1 {
		t.Errorf("rows without cells: %s", show(told))
	}
	in := api.Table{Vars: []string{"x"}, Rows: [][]api.Value{{{Kind: api.KList, List: []api.Value{}}}, {{Kind: api.KList}}, {{Kind: api.KNull, List: []api.Value{}}}, {none}}}
	told, err := Group(api.LangC, in, []string{"x"}, aggs("n:count"), aWorld())
	if err != api.OK {
		t.Error(err)
	}
	is(t, "empty lists", told, table("x n", "[] 2", "- 2"))
}

// TestFace: the face is the skeleton's.
func TestFace(t *testing.T) {
	var (
		_ func(lang int, t api.Table, keys []string, aggs []api.Agg, env expr.Env) (api.Table, api.Errno) = Group
		_ func(lang int, t api.Table, sorts []api.Sort, env expr.Env) (api.Table, api.Errno)              = Sort
		_ func(t api.Table, skip, limit int64) api.Table                                                  = Slice
		_ func(lang int, t api.Table, sorts []api.Sort, n int64, env expr.Env) (api.Table, api.Errno)     = Top
	)
}
