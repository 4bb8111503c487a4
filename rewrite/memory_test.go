package rewrite

import (
	"fmt"
	"reflect"
	"runtime"
	"slices"
	"strings"
	"sync"
	"testing"
	"unsafe"

	"diptych/algebra"
	"diptych/api"
)

// plansOfAll tells plans of C and of S with something of everything, of which the rules change much.
func plansOfAll() []api.Plan {
	long := strings.Repeat("long", 3)
	table := func() api.Plan {
		return values("first w", row(text(long), list(text(long), list(num(1)))), row(tagged(long, "en"), none), row(none, dec("1.25")))
	}
	within := func() api.Expr {
		return op(api.EOr, exists(filter(unit(), op(api.EEq, at("w"), lit(list(text(long)))))), op(api.ENot, isNull("first")))
	}
	top := func(p api.Plan) api.Plan {
		p = left(join(filter(p, yes), table()), filter(unit(), no), yes)
		p = unwind(extend(both(p, minus(table(), values("w", row(num(1))))), "next", call("coalesce", at("w"), lit(text(long)))), "third", lit(list(text(long), list(text("n")))))
		p = filter(filter(p, within()), op(api.ENe, at("third"), lit(text(long))))
		p = filter(both(p, table()), op(api.EEq, at("first"), lit(list(text(long), list(text(long))))))
		p = project(project(extend(p, "fourth", at("first")), "first fourth w"), "first w")
		return slice(order(distinct(distinct(p)), at("first"), within()), 1, 30)
	}
	path := match(match(unit(), "one", "hop"), "two", "leap")
	path.Spots[0].Labels, path.In[0].Hops[0].Types = []string{"Label", "Other"}, []string{"Type", "Kind"}
	path.In[0].Hops[0].Dir, path.Hops[0].Dir = -1, 1
	path.Flag, path.E = true, []api.Expr{op(api.ELt, api.Expr{Op: api.EProp, Text: "key", Args: []api.Expr{at("one")}}, lit(text(long)))}
	inC := groupBy(top(path), "first", agg("count"), agg("collect", at("w")))
	inS := groupBy(top(bgp("?one prop ?two. ?two ?three long")), "first w", agg("concat", call("text", at("first"))), agg("sample", at("w")))
	return []api.Plan{inC, in(api.LangS, inS), inC.In[0], in(api.LangS, inS.In[0]), in(api.LangS, filter(inS, within())), in(api.LangS, filter(inS, no)), filter(filter(table(), yes), no), table()}
}

// TestPlansOfAll holds that the plans below may be, and that much is done to them.
func TestPlansOfAll(t *testing.T) {
	for i, p := range plansOfAll() {
		if !algebra.Check(p) {
			t.Fatalf("%d: may not be", i)
		}
		q := applied(t, p, api.RuleAll)
		if !nothingLeft(q, api.RuleAll) || i < 7 && alike(p, q) {
			t.Errorf("%d:%s", i, short(q))
		}
		meansTheSame(t, p, q, data())
	}
}

// loose tells a copy of v whose lists each have more behind their lengths than they show, empty ones too.
func loose(v reflect.Value) reflect.Value {
	told := reflect.New(v.Type()).Elem()
	switch v.Kind() {
	case reflect.Slice:
		told.Set(reflect.MakeSlice(v.Type(), v.Len(), v.Len()+2))
		for i := range v.Len() {
			told.Index(i).Set(loose(v.Index(i)))
		}
	case reflect.Struct:
		for i := range v.NumField() {
			told.Field(i).Set(loose(v.Field(i)))
		}
	case reflect.String:
		told.SetString(strings.Clone(v.String()))
	default:
		told.Set(v)
	}
	return told
}

func looseOf(p api.Plan) api.Plan { return loose(reflect.ValueOf(p)).Interface().(api.Plan) }

// behindIsLeft tells whether what stands behind the lengths is zero still.
func behindIsLeft(v reflect.Value) bool {
	switch v.Kind() {
	case reflect.Slice:
		behind := v.Slice(0, v.Cap())
		for i := range v.Cap() {
			if i < v.Len() && !behindIsLeft(behind.Index(i)) || i >= v.Len() && !behind.Index(i).IsZero() {
				return false
			}
		}
	case reflect.Struct:
		for i := range v.NumField() {
			if !behindIsLeft(v.Field(i)) {
				return false
			}
		}
	}
	return true
}

// TestHandedInIsLeft: P15.4 (R2): nothing that is handed in is changed, nor anything behind its lists.
func TestHandedInIsLeft(t *testing.T) {
	for i, p := range plansOfAll() {
		kept := looseOf(p)
		for rules := range api.RuleAll + 1 {
			if got, want := applied(t, kept, rules), applied(t, p, rules); !alike(got, want) {
				t.Fatalf("%d: with loose lists%s\nnot%s", i, short(got), short(want))
			}
		}
		if Cost(kept) != Cost(p) || !alike(kept, p) || !behindIsLeft(reflect.ValueOf(kept)) {
			t.Errorf("%d: the plan is changed", i)
		}
	}
}

// TestBehindIsNotRead: P15.4 (R2): what stands behind a list's length has no part in what is told.
func TestBehindIsNotRead(t *testing.T) {
	p := project(project(xs(), "x"), "x")
	p.In[0].Vars = append(p.In[0].Vars, "y")[:1]
	p.Vars = append(p.Vars, "v")[:1]
	p.E, p.Rows, p.In = []api.Expr{{}}[:0], [][]api.Value{{num(1)}}[:0], append(p.In, api.Plan{Op: 99})[:1]
	becomes(t, p, api.RuleAll, project(xs(), "x"))
	if Cost(p) != 3 {
		t.Error(Cost(p))
	}
	nothing := values("")
	nothing.Vars, nothing.Rows = []string{"x"}[:0], [][]api.Value{{num(1)}}[:0]
	becomes(t, left(xs(), nothing, yes), api.RuleLeft, xs())
	bare := filter(distinct(xs()), no)
	bare.In[0].E, bare.In[0].Sorts, bare.In[0].Aggs = []api.Expr{fault}[:0], []api.Sort{{E: fault}}[:0], []api.Agg{{E: fault}}[:0]
	becomes(t, bare, api.RuleFold, empty("x y"))
	asks := op(api.ENot, yes)
	asks.Args = append(asks.Args, exists(unit()))[:1]
	becomesIn(t, api.LangS, filter(both(xs(), zs()), asks), api.RulePush, both(filter(xs(), asks), filter(zs(), asks)))
}

// TestEmptyLists: P15.4 (R2): nil and empty lists are one.
func TestEmptyLists(t *testing.T) {
	for _, p := range []api.Plan{left(xs(), api.Plan{Op: api.PValues, Vars: []string{}, Rows: [][]api.Value{}}, yes), left(xs(), api.Plan{Op: api.PValues}, yes)} {
		p.Vars, p.Sorts, p.E[0].Args, p.E[0].Plan, p.E[0].Match = []string{}, []api.Sort{}, []api.Expr{}, []api.Plan{}, []api.Clause{}
		becomes(t, p, api.RuleLeft, xs())
	}
	q := project(api.Plan{Op: api.PProject, Vars: []string{}, In: []api.Plan{xs()}}, "")
	q.Vars = nil
	becomes(t, q, api.RuleMerge, project(xs(), ""))
}

// lists tells where the memory of each list in v begins and ends, with what is behind its length, and that of texts if they are asked for.
func lists(v reflect.Value, texts bool, tell func(from, to uintptr)) {
	switch v.Kind() {
	case reflect.Slice:
		if v.Cap() > 0 {
			tell(v.Pointer(), v.Pointer()+uintptr(v.Cap())*v.Type().Elem().Size())
		}
		for i := range v.Len() {
			lists(v.Index(i), texts, tell)
		}
	case reflect.Struct:
		for i := range v.NumField() {
			lists(v.Field(i), texts, tell)
		}
	case reflect.String:
		if texts && v.Len() > 1 { // Go keeps texts of a byte once
			from := uintptr(unsafe.Pointer(unsafe.StringData(v.String())))
			tell(from, from+uintptr(v.Len()))
		}
	}
}

type stretch struct{ from, to uintptr }

func stretches(texts bool, l ...any) []stretch {
	var all []stretch
	for _, v := range l {
		lists(reflect.ValueOf(v), texts, func(from, to uintptr) { all = append(all, stretch{from, to}) })
	}
	slices.SortFunc(all, func(a, b stretch) int { return int(int64(a.from) - int64(b.from)) })
	return all
}

// apart holds that no two lists of what is told share memory, and that it shares none with what was handed in, no text either.
func apart(t *testing.T, told any, given ...any) {
	t.Helper()
	mine := stretches(false, told)
	for i := range mine[:max(len(mine)-1, 0)] {
		if mine[i].to > mine[i+1].from {
			t.Fatalf("two lists of an answer share memory")
		}
	}
	mine = stretches(true, told)
	for _, s := range stretches(true, given...) {
		i, _ := slices.BinarySearchFunc(mine, s.from, func(m stretch, from uintptr) int { return int(int64(m.to) - int64(from) - 1) })
		if i < len(mine) && mine[i].from < s.to && mine[i].to > s.from {
			t.Fatalf("an answer shares memory with what was handed in")
		}
	}
	runtime.KeepAlive(told)
	runtime.KeepAlive(given)
}

// TestToldIsNew: P15.4 (R2): what is told shares no memory, copies of a filter neither.
func TestToldIsNew(t *testing.T) {
	for _, p := range plansOfAll() {
		p = looseOf(p)
		for rules := range api.RuleAll + 1 {
			got := applied(t, p, rules)
			apart(t, got, p)
			apart(t, got, applied(t, p, rules))
		}
	}
	shared := lit(list(text("long text"), list(num(1))))
	p := in(api.LangS, filter(both(both(xs(), zs()), xs()), op(api.EEq, shared, shared)))
	p.E[0].Args[1] = p.E[0].Args[0] // lists that are handed in may share memory
	p.In[0].In[1] = p.In[0].In[0].In[0]
	for rules := range api.RuleAll + 1 {
		apart(t, applied(t, p, rules), p)
	}
}

// TestWrittenOver: P15.4 (R2): what is told is the caller's own.
func TestWrittenOver(t *testing.T) {
	for i, p := range plansOfAll() {
		kept := looseOf(p)
		got, want := applied(t, kept, api.RuleAll), applied(t, p, api.RuleAll)
		spoil(reflect.ValueOf(&got).Elem())
		if !alike(kept, p) || !alike(applied(t, kept, api.RuleAll), want) {
			t.Errorf("%d: what was told is kept", i)
		}
		got = applied(t, kept, api.RuleAll)
		spoil(reflect.ValueOf(&kept).Elem())
		if !alike(got, want) {
			t.Errorf("%d: what was handed in is kept", i)
		}
	}
}

// spoil writes over all that stands in the lists of v.
func spoil(v reflect.Value) {
	switch v.Kind() {
	case reflect.Slice:
		for i := range v.Len() {
			spoil(v.Index(i))
		}
	case reflect.Struct:
		for i := range v.NumField() {
			spoil(v.Field(i))
		}
	default:
		v.SetZero()
	}
}

// TestLentTexts: P15.4 (R2): texts are not kept in the memory in which they are handed in.
func TestLentTexts(t *testing.T) {
	for i, p := range plansOfAll() {
		var all [][]byte
		lent := lend(reflect.ValueOf(p), &all).Interface().(api.Plan)
		got, want := applied(t, lent, api.RuleAll), applied(t, p, api.RuleAll)
		for _, b := range all {
			clear(b)
		}
		if !alike(got, want) {
			t.Errorf("%d: a text is kept", i)
		}
	}
}

// lend tells a copy of v whose texts lie in memory that can be written over.
func lend(v reflect.Value, all *[][]byte) reflect.Value {
	told := reflect.New(v.Type()).Elem()
	switch v.Kind() {
	case reflect.Slice:
		for i := range v.Len() {
			told.Set(reflect.Append(told, lend(v.Index(i), all)))
		}
	case reflect.Struct:
		for i := range v.NumField() {
			told.Field(i).Set(lend(v.Field(i), all))
		}
	case reflect.String:
		if b := []byte(v.String()); len(b) > 0 {
			*all = append(*all, b)
			told.SetString(unsafe.String(&b[0], len(b)))
		}
	default:
		told.Set(v)
	}
	return told
}

// TestEnds: P15.4 (R3): whatever is handed in.
func TestEnds(t *testing.T) {
	never := chain(1<<16, unit(), distinct)
	asked := chain(1<<15, unit(), func(p api.Plan) api.Plan { return filter(unit(), exists(p)) })
	nested, not := num(1), yes
	for range 1 << 16 {
		nested, not = list(nested), op(api.ENot, not)
	}
	many := slices.Repeat([]api.Plan{unit()}, 1<<16)
	round := []api.Plan{distinct(unit())}
	round[0].In = round
	again := []api.Expr{op(api.ENot, yes)}
	again[0].Args = again
	looped := list(num(1))
	looped.List[0] = list(looped)
	looped.List[0].List = looped.List
	for _, p := range []api.Plan{
		never, asked, filter(unit(), not), filter(unit(), lit(nested)), values("a", row(nested)), plan(api.PJoin, api.Plan{}, many...), round[0], plan(api.PFilter, api.Plan{E: again}, unit()), filter(unit(), lit(looped)), filter(unit(), exists(round[0])),
		{Op: api.PFilter, E: []api.Expr{{Op: api.EExists}}}, {Op: api.PFilter, E: []api.Expr{yes}}, {Op: api.PProject}, {Op: api.PDistinct}, {Op: api.PLeft, E: []api.Expr{yes}, In: []api.Plan{unit()}}, {Op: -1 << 63}, {Op: api.PUnit, Lang: 1 << 62},
	} {
		for _, rules := range []int{api.RuleAll, 0, -1} {
			refused(t, p, rules, api.ErrPlan)
		}
		if Cost(p) != 0 {
			t.Errorf("%d of%s", Cost(p), short(p))
		}
	}
}

// TestTallAndWide: P15.2, P15.4 (R3): as many parts as may be.
func TestTallAndWide(t *testing.T) {
	unions := chain(1000, xs(), func(p api.Plan) api.Plan { return both(p, zs()) })
	filters := func(n int, p api.Plan) api.Plan {
		for i := range n {
			p = filter(p, op(api.EEq, at("x"), lit(num(int64(i)))))
		}
		return p
	}
	for _, p := range []api.Plan{
		chain(api.MaxParts-1, unit(), distinct), chain(1360, xs(), func(p api.Plan) api.Plan { return filter(p, yes) }), chain(1360, xs(), func(p api.Plan) api.Plan { return filter(p, isNull("x")) }), chain(4095, xs(), func(p api.Plan) api.Plan { return project(p, "x y") }),
		project(chain(60, xs(), func(p api.Plan) api.Plan { return extend(p, fmt.Sprint("v", len(algebra.Vars(p))), yes) }), "x"), chain(1300, xs(), func(p api.Plan) api.Plan { return left(p, unit(), yes) }), filters(500, unions), filters(1, unions), filters(2, unions), both(filters(200, unions), filters(200, xs())), chain(1000, filters(1, unions), func(p api.Plan) api.Plan { return join(unit(), p) }),
		filter(chain(4090, xs(), distinct), no), filter(unit(), exists(chain(4080, unit(), distinct))),
	} {
		for _, lang := range langs {
			p := in(lang, p)
			for _, rules := range []int{api.RuleAll, api.RulePush, api.RuleMerge, api.RuleFold | api.RuleLeft, api.RulePrune} {
				q := applied(t, p, rules)
				if Cost(p) == 0 || !nothingLeft(q, rules) || Cost(q) > Cost(p) && rules&api.RulePush == 0 {
					t.Errorf("rules %d, cost %d, then %d:%s", rules, Cost(p), Cost(q), short(q))
				}
			}
		}
	}
}

// TestGreatLiteral: P15.4 (R3): a filter that is copied often may have a text as long as may be.
func TestGreatLiteral(t *testing.T) {
	unions := chain(900, xs(), func(p api.Plan) api.Plan { return both(p, zs()) })
	p := in(api.LangS, filter(unions, op(api.EEq, at("x"), lit(text(strings.Repeat("t", api.MaxText))))))
	if q := applied(t, p, api.RulePush); Cost(q) != Cost(p)+4*((api.MaxParts-Cost(p))/4) {
		t.Error(Cost(p), Cost(q))
	}
}

// TestAskedAtOnce: P15.4 (R6): many may ask at once.
func TestAskedAtOnce(t *testing.T) {
	var all sync.WaitGroup
	for _, p := range plansOfAll() {
		want := applied(t, p, api.RuleAll)
		for range 4 {
			all.Go(func() {
				if got, err := Apply(p, api.RuleAll); err != api.OK || !alike(got, want) || Cost(p) == 0 {
					t.Errorf("%d,%s", err, short(got))
				}
			})
		}
	}
	all.Wait()
}

// TestNothingIsKept: P15.4 (R6): an answer hangs on what is handed in alone.
func TestNothingIsKept(t *testing.T) {
	plans := plansOfAll()
	first := mapped(plans, func(p api.Plan) api.Plan { return applied(t, p, api.RuleAll) })
	for i, p := range slices.Backward(plans) {
		refused(t, p, -1, api.ErrArg)
		for range 3 {
			if !alike(applied(t, p, api.RuleAll), first[i]) {
				t.Errorf("%d: not as before", i)
			}
		}
	}
}

// TestFace: the face stands as it is given.
func TestFace(t *testing.T) {
	var _ func(api.Plan, int) (api.Plan, api.Errno) = Apply
	var _ func(api.Plan) int = Cost
}
