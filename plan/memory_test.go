package plan

import (
	"reflect"
	"runtime"
	"slices"
	"strings"
	"sync"
	"testing"
	"unsafe"

	"diptych/algebra"
	"diptych/api"
	"diptych/rewrite"
)

// loose tells a copy of v whose lists each have more behind their lengths than they show, empty ones too.
func loose(v reflect.Value) reflect.Value {
	told := reflect.New(v.Type()).Elem()
	switch v.Kind() {
	case reflect.Slice:
		told.Set(reflect.MakeSlice(v.Type(), v.Len(), v.Len()+2))
		for i := range v.Len() {
			told.Index(i).Set(loose(v.Index(i)))
		}
	case reflect.Struct:
		for i := range v.NumField() {
			told.Field(i).Set(loose(v.Field(i)))
		}
	case reflect.String:
		told.SetString(strings.Clone(v.String()))
	default:
		told.Set(v)
	}
	return told
}

func looseOf(p api.Plan) api.Plan { return loose(reflect.ValueOf(p)).Interface().(api.Plan) }

// behindIsLeft tells whether what stands behind the lengths is zero still.
func behindIsLeft(v reflect.Value) bool {
	switch v.Kind() {
	case reflect.Slice:
		behind := v.Slice(0, v.Cap())
		for i := range v.Cap() {
			if i < v.Len() && !behindIsLeft(behind.Index(i)) || i >= v.Len() && !behind.Index(i).IsZero() {
				return false
			}
		}
	case reflect.Struct:
		for i := range v.NumField() {
			if !behindIsLeft(v.Field(i)) {
				return false
			}
		}
	}
	return true
}

// answers is all that a Physical tells, but for its errors.
type answers struct {
	Plan    api.Plan
	Options api.Options
	Bags    [][]api.Bag
	Orders  [][]string
}

func told(m *Physical) answers {
	a := answers{Plan: m.Plan(), Options: m.Options()}
	for i := range m.Bgps() {
		l, _ := m.Bags(i)
		names, _ := m.Order(i)
		a.Bags, a.Orders = append(a.Bags, l), append(a.Orders, names)
	}
	return a
}

// many tells plans of all sorts, with names and texts longer than a byte.
func many() []api.Plan {
	return append(plans(), triples("?alpha prop ?beta. ?beta prop ?gamma. ?gamma ?alpha ?delta. ?delta other ?beta"), join(star(9), filter(star(5), exists(star(7)))))
}

// spoil writes over all that stands in the lists of v.
func spoil(v reflect.Value) {
	switch v.Kind() {
	case reflect.Slice:
		for i := range v.Len() {
			spoil(v.Index(i))
		}
	case reflect.Struct:
		for i := range v.NumField() {
			spoil(v.Field(i))
		}
	default:
		v.SetZero()
	}
}

// TestHandedInIsLeft: P17.5 (R2): nothing that is handed in is changed, nor anything behind its lists.
func TestHandedInIsLeft(t *testing.T) {
	for i, p := range many() {
		kept := looseOf(p)
		for rules := range api.RuleAll + 1 {
			if got, want := told(made(t, kept, by(rules))), told(made(t, p, by(rules))); !alike(got, want) {
				t.Fatalf("%d: with loose lists %+v\nnot %+v", i, got, want)
			}
		}
		if !alike(kept, p) || !behindIsLeft(reflect.ValueOf(kept)) {
			t.Errorf("%d: the plan is changed", i)
		}
	}
}

// TestBehindIsNotRead: P17.5 (R2): what stands behind a list's length has no part in what is told.
func TestBehindIsNotRead(t *testing.T) {
	p := triples("?a p ?b. ?b p ?c. ?c p ?a. 1 2 3")
	p.Bgp = p.Bgp[:2]
	m := made(t, filter(p, op(api.EAnd, exists(named("x")), yes)), wide(1, 0))
	if _, err := m.Bags(0); err != api.OK || orders(t, m) != "a b c|x" {
		t.Errorf("%d, %s", err, orders(t, m))
	}
	q := filter(join(named("a"), named("b")), yes)
	q.In = append(q.In, named("c"))[:1]
	q.E = append(q.E, exists(named("d")))[:1]
	q.E[0].Args, q.E[0].Plan = []api.Expr{exists(named("e"))}[:0], []api.Plan{named("f")}[:0]
	q.Sorts, q.Aggs, q.Bgp = []api.Sort{{E: exists(named("g"))}}[:0], []api.Agg{{E: exists(named("h"))}}[:0], named("i").Bgp[:0]
	if m := made(t, q, options()); orders(t, m) != "a|b" {
		t.Error(orders(t, m))
	}
}

// TestEmptyLists: P17.5 (R2): nil and empty lists are one.
func TestEmptyLists(t *testing.T) {
	for _, l := range [][]api.Pattern{nil, {}} {
		m := made(t, api.Plan{Op: api.PBgp, Lang: api.LangS, Bgp: l, Vars: []string{}, In: []api.Plan{}, E: []api.Expr{}, Rows: [][]api.Value{}}, wide(1, 5))
		names, err := m.Order(0)
		bags, bad := m.Bags(0)
		if m.Bgps() != 1 || len(names) != 0 || err != api.OK || bad != api.OK || !alike(bags, []api.Bag{{Parent: -1}}) {
			t.Errorf("%v, %d; %v, %d", names, err, bags, bad)
		}
	}
}

// lists tells where the memory of each list in v begins and ends, with what is behind its length, and that of texts if they are asked for.
func lists(v reflect.Value, texts bool, tell func(from, to uintptr)) {
	switch v.Kind() {
	case reflect.Slice:
		if v.Cap() > 0 {
			tell(v.Pointer(), v.Pointer()+uintptr(v.Cap())*v.Type().Elem().Size())
		}
		for i := range v.Len() {
			lists(v.Index(i), texts, tell)
		}
	case reflect.Struct:
		for i := range v.NumField() {
			lists(v.Field(i), texts, tell)
		}
	case reflect.String:
		if texts && v.Len() > 1 { // Go keeps texts of a byte once
			from := uintptr(unsafe.Pointer(unsafe.StringData(v.String())))
			tell(from, from+uintptr(v.Len()))
		}
	}
}

type stretch struct{ from, to uintptr }

func stretches(texts bool, v any) []stretch {
	var all []stretch
	lists(reflect.ValueOf(v), texts, func(from, to uintptr) { all = append(all, stretch{from, to}) })
	slices.SortFunc(all, func(a, b stretch) int { return int(int64(a.from) - int64(b.from)) })
	return all
}

// apart holds that no two lists of what is told share memory, and that it shares none with what was handed in or told ahead, no text either.
func apart(t *testing.T, told, other any) {
	t.Helper()
	mine := stretches(false, told)
	for i := range mine[:max(len(mine)-1, 0)] {
		if mine[i].to > mine[i+1].from {
			t.Fatalf("two lists of an answer share memory")
		}
	}
	mine = stretches(true, told)
	for _, s := range stretches(true, other) {
		if slices.ContainsFunc(mine, func(m stretch) bool { return m.from < s.to && s.from < m.to }) {
			t.Fatalf("an answer shares memory")
		}
	}
	runtime.KeepAlive(told)
	runtime.KeepAlive(other)
}

// TestToldIsNew: P17.5 (R2): what is told shares no memory, neither with what was handed in nor with what is told again.
func TestToldIsNew(t *testing.T) {
	for _, p := range many() {
		p = looseOf(p)
		for _, o := range []api.Options{options(), by(api.RuleAll), wide(8, 41)} {
			m := made(t, p, o)
			got, again, other := told(m), told(m), told(made(t, p, o))
			apart(t, got, p)
			apart(t, got, again)
			apart(t, got, other)
		}
	}
}

// TestWrittenOver: P17.5 (R2): what Plan, Bags and Order tell may be written over, and so may what was handed in.
func TestWrittenOver(t *testing.T) {
	for i, p := range many() {
		for _, o := range []api.Options{options(), by(api.RuleAll), wide(8, 41)} {
			kept := looseOf(p)
			m, want := made(t, kept, o), told(made(t, p, o))
			got := told(m)
			spoil(reflect.ValueOf(&got).Elem())
			if !alike(told(m), want) {
				t.Errorf("%d: what was told is kept", i)
			}
			spoil(reflect.ValueOf(&kept).Elem())
			if !alike(told(m), want) || m.Bgps() != len(want.Orders) {
				t.Errorf("%d: what was handed in is kept", i)
			}
		}
	}
}

// TestLentTexts: P17.5 (R2): texts are not kept in the memory in which they are handed in.
func TestLentTexts(t *testing.T) {
	for i, p := range many() {
		var all [][]byte
		lent := lend(reflect.ValueOf(p), &all).Interface().(api.Plan)
		m, want := made(t, lent, by(api.RuleAll)), told(made(t, p, by(api.RuleAll)))
		for _, b := range all {
			clear(b)
		}
		if !alike(told(m), want) {
			t.Errorf("%d: a text is kept", i)
		}
	}
}

// lend tells a copy of v whose texts lie in memory that can be written over.
func lend(v reflect.Value, all *[][]byte) reflect.Value {
	told := reflect.New(v.Type()).Elem()
	switch v.Kind() {
	case reflect.Slice:
		for i := range v.Len() {
			told.Set(reflect.Append(told, lend(v.Index(i), all)))
		}
	case reflect.Struct:
		for i := range v.NumField() {
			told.Field(i).Set(lend(v.Field(i), all))
		}
	case reflect.String:
		if b := []byte(v.String()); len(b) > 0 {
			*all = append(*all, b)
			told.SetString(unsafe.String(&b[0], len(b)))
		}
	default:
		told.Set(v)
	}
	return told
}

// tall tells what n steps make of p.
func tall(n int, p api.Plan, step func(api.Plan) api.Plan) api.Plan {
	for range n {
		p = step(p)
	}
	return p
}

// TestEnds: P17.5 (R3): whatever is handed in.
func TestEnds(t *testing.T) {
	asked := func(p api.Plan) api.Plan { return filter(unit(), exists(p)) }
	not := yes
	for range 1 << 15 {
		not = op(api.ENot, not)
	}
	round := []api.Plan{distinct(unit())}
	round[0].In = round
	again := []api.Expr{op(api.ENot, yes)}
	again[0].Args = again
	for _, p := range []api.Plan{
		tall(1<<16, unit(), distinct), tall(1<<15, named("a"), asked), filter(unit(), not), plan(api.PJoin, api.Plan{}, slices.Repeat([]api.Plan{unit()}, 1<<16)...), round[0], filter(unit(), exists(round[0])), plan(api.PFilter, api.Plan{E: again}, unit()),
		plan(api.PBgp, api.Plan{Bgp: slices.Repeat(named("a").Bgp, 1<<16)}), {Op: api.PFilter}, {Op: api.PBgp, Bgp: make([]api.Pattern, 3)}, {Op: -1 << 63, Lang: 1 << 62},
	} {
		refused(t, p, options(), api.ErrPlan)
		refused(t, p, api.Options{}, api.ErrPlan)
	}
}

// TestTallAndWide: P17.3, P17.5 (R3): as many parts as may be.
func TestTallAndWide(t *testing.T) {
	halves := func(p api.Plan) api.Plan { return both(p, named("z")) }
	for _, c := range []struct {
		p api.Plan
		n int
	}{
		{tall(api.MaxParts-1, named("a"), distinct), 1}, {tall(2047, named("a"), halves), 2048}, {tall(1365, named("a"), func(p api.Plan) api.Plan { return filter(unit(), exists(p)) }), 1}, {tall(1365, unit(), func(p api.Plan) api.Plan { return filter(p, exists(unit())) }), 0}, {join(tall(2000, named("a"), distinct), tall(2000, named("b"), distinct)), 2},
	} {
		for _, o := range []api.Options{options(), by(api.RuleAll &^ api.RuleMerge)} {
			m := made(t, c.p, o)
			if m.Bgps() != c.n || algebra.Size(m.Plan()) != algebra.Size(c.p) {
				t.Errorf("%d, not %d", m.Bgps(), c.n)
			}
			for i := range c.n {
				if names, err := m.Order(i); len(names) != 1 || err != api.OK {
					t.Fatalf("%d: %v, %d", i, names, err)
				}
			}
		}
	}
}

// TestAskedAtOnce: P17.5 (R6): many may ask one at once.
func TestAskedAtOnce(t *testing.T) {
	var all sync.WaitGroup
	for _, p := range many() {
		m := made(t, p, by(api.RuleAll))
		want := told(m)
		for range 4 {
			all.Go(func() {
				if got := told(m); !alike(got, want) {
					t.Errorf("%+v, not %+v", got, want)
				}
				if other, err := Make(p, by(api.RuleAll)); err != api.OK || other.Bgps() != m.Bgps() {
					t.Errorf("%d", err)
				}
			})
		}
	}
	all.Wait()
}

// TestNothingIsKept: P17.5 (R6): what one is asked changes nothing of what it, or another one, tells.
func TestNothingIsKept(t *testing.T) {
	var ms []*Physical
	var first []answers
	for i, p := range many() {
		m := made(t, p, wide(1+i%8, i))
		ms, first = append(ms, m), append(first, told(m))
	}
	refused(t, api.Plan{}, options(), api.ErrPlan)
	for i, m := range slices.Backward(ms) {
		if _, err := m.Order(-1); err != api.ErrArg {
			t.Error(err)
		}
		for range 2 {
			if !alike(told(m), first[i]) {
				t.Errorf("%d: not as before", i)
			}
		}
		if again, err := rewrite.Apply(m.Plan(), 0); err != api.OK || !alike(again, first[i].Plan) {
			t.Errorf("%d: %d", i, err)
		}
	}
}

// TestFace: the face stands as it is given.
func TestFace(t *testing.T) {
	var _ func(api.Options) bool = Check
	var _ func(api.Plan, api.Options) (*Physical, api.Errno) = Make
	var _ func(*Physical) api.Plan = (*Physical).Plan
	var _ func(*Physical) api.Options = (*Physical).Options
	var _ func(*Physical, int) ([]api.Bag, api.Errno) = (*Physical).Bags
	var _ func(*Physical, int) ([]string, api.Errno) = (*Physical).Order
	var _ func(*Physical) int = (*Physical).Bgps
	one := reflect.TypeFor[Physical]()
	for i := range one.NumField() {
		if one.Field(i).IsExported() || one.Field(i).Anonymous {
			t.Errorf("%s is a field of the face", one.Field(i).Name)
		}
	}
}
