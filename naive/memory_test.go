package naive

import (
	"fmt"
	"reflect"
	"runtime"
	"slices"
	"strings"
	"sync"
	"testing"
	"unsafe"

	"diptych/algebra"
	"diptych/api"
)

// rich tells a plan of C and one of S with something of everything, over data of both.
func rich() ([]api.Plan, api.Data) {
	d := drawn("1:A:B 2:A 3 5=1>2:T 6=2>3:U 7=3>3:T")
	d.G.Nodes[0].Props = []api.Pair{{Key: "k", V: list(num(1), text("t"))}, {Key: "c", V: text("p")}}
	d.G.Edges[0].Props = []api.Pair{{Key: "k", V: text("e")}}
	d.T = store("a p b. a p c. b p c. c q a. a p b. c p 3").T
	d.T = append(d.T, api.Triple{S: iri("a"), P: iri("q"), O: tagged("l", "en")})
	top := func(p api.Plan, first api.Value) api.Plan {
		table := values("a w", row(first, list(text("t"), list(num(1)))), row(first, text("u")), row(none, none))
		p = left(join(p, table), values("v", row(text("z")), row(num(1))), exists(filter(unit(), not(op(api.EIsNull, at("v"))))))
		p = unwind(extend(both(p, minus(table, values("w", row(num(1))))), "y", at("w")), "u", lit(list(text("u"), list(text("n")))))
		p = filter(p, op(api.EOr, yes, exists(unit())))
		return distinct(slice(order(p, down(at("a")), up(at("v"))), 1, 30))
	}
	inC := top(optional(match(match(unit(), "a:A b", "a-r-b"), "b c", "b-s:U:T>c"), op(api.ELt, lit(text("a")), lit(text("b")))), node(1))
	inC = groupBy(extend(inC, "p", prop(at("a"), "k")), "a p u", agg("count"), not(agg("min", at("p"))), agg("collect", at("w")), agg("max", call("labels", at("b"))))
	inS := groupBy(top(bgp("?a p ?b. ?b ?q ?c"), iri("a")), "a u", agg("count", at("v")), agg("sample", at("c")), agg("concat", call("text", at("a"))), agg("min", at("w")))
	table := values("a w", row(text("name"), text("u")), row(text("name"), list(text("t"), list(num(1)))), row(text("a"), none))
	return []api.Plan{inC, order(inC, down(at("a1"))), inC.In[0], in(api.LangS, inS), in(api.LangS, slice(order(inS, up(at("a"))), 1, 9)), in(api.LangS, inS.In[0]), table, slice(table, 0, 2), order(table, up(at("a")))}, d
}

// everything tells what Eval tells, as a text.
func everything(p api.Plan, d api.Data) string {
	got, err := Eval(p, d)
	return fmt.Sprint(err, " ", show(got))
}

// TestRich holds that there is something to look at below.
func TestRich(t *testing.T) {
	plans, d := rich()
	for i, p := range plans {
		got, err := Eval(p, d)
		if err != api.OK || len(got.Rows) < 2 {
			t.Errorf("%d: %d, %s", i, err, show(got))
		}
	}
}

// loose tells a copy of v whose lists each have more behind their lengths than they show.
func loose(v reflect.Value) reflect.Value {
	told := reflect.New(v.Type()).Elem()
	switch v.Kind() {
	case reflect.Slice:
		if v.Len() > 0 {
			told.Set(reflect.MakeSlice(v.Type(), v.Len(), v.Len()+3))
		}
		for i := range v.Len() {
			told.Index(i).Set(loose(v.Index(i)))
		}
	case reflect.Struct:
		for i := range v.NumField() {
			told.Field(i).Set(loose(v.Field(i)))
		}
	default:
		told.Set(v)
	}
	return told
}

// behindIsLeft tells whether what stands behind the lengths is zero still.
func behindIsLeft(v reflect.Value) bool {
	switch v.Kind() {
	case reflect.Slice:
		behind := v.Slice(0, v.Cap())
		for i := range v.Cap() {
			if i < v.Len() && !behindIsLeft(behind.Index(i)) || i >= v.Len() && !behind.Index(i).IsZero() {
				return false
			}
		}
	case reflect.Struct:
		for i := range v.NumField() {
			if !behindIsLeft(v.Field(i)) {
				return false
			}
		}
	}
	return true
}

// TestHandedInIsLeft: P11.3 (R2): nothing that is handed in is changed, nor anything behind its lists.
func TestHandedInIsLeft(t *testing.T) {
	plans, d := rich()
	d = loose(reflect.ValueOf(d)).Interface().(api.Data)
	given := loose(reflect.ValueOf(d)).Interface().(api.Data)
	for i, p := range plans {
		p = loose(reflect.ValueOf(p)).Interface().(api.Plan)
		q := loose(reflect.ValueOf(p)).Interface().(api.Plan)
		want := everything(p, d)
		p = loose(reflect.ValueOf(q)).Interface().(api.Plan)
		if got := everything(q, given); got != want {
			t.Errorf("%d: with loose lists %s; want %s", i, got, want)
		}
		if !reflect.DeepEqual(p, q) || !behindIsLeft(reflect.ValueOf(q)) {
			t.Errorf("%d: the plan is changed", i)
		}
		if !reflect.DeepEqual(d, given) || !behindIsLeft(reflect.ValueOf(given)) {
			t.Fatalf("%d: the data is changed", i)
		}
	}
	l := []api.Value{num(2), num(1), list(text("b"), list()), num(2), text("a")}
	kept := loose(reflect.ValueOf(l)).Interface().([]api.Value)
	for lang, names := range [][]string{{"count", "sum", "avg", "min", "max", "collect"}, {"sample", "concat"}} {
		for _, name := range names {
			Aggregate(lang, of(name), kept, len(kept))
			Aggregate(lang, unique(name), kept, len(kept))
			if !reflect.DeepEqual(l, kept) || !behindIsLeft(reflect.ValueOf(kept)) {
				t.Fatalf("%s: the values are changed", name)
			}
		}
	}
}

// lists tells where the memory of each list in v begins, with what is behind its length.
func lists(v reflect.Value, tell func(from, to uintptr)) {
	switch v.Kind() {
	case reflect.Slice:
		if v.Cap() > 0 {
			tell(v.Pointer(), v.Pointer()+uintptr(v.Cap())*v.Type().Elem().Size())
		}
		for i := range v.Len() {
			lists(v.Index(i), tell)
		}
	case reflect.Struct:
		for i := range v.NumField() {
			lists(v.Field(i), tell)
		}
	case reflect.String:
		if v.Len() > 0 {
			from := uintptr(unsafe.Pointer(unsafe.StringData(v.String())))
			tell(from, from+uintptr(v.Len()))
		}
	}
}

type stretch struct{ from, to uintptr }

func stretches(l ...any) []stretch {
	var all []stretch
	for _, v := range l {
		lists(reflect.ValueOf(v), func(from, to uintptr) { all = append(all, stretch{from, to}) })
	}
	slices.SortFunc(all, func(a, b stretch) int { return int(int64(a.from) - int64(b.from)) })
	return all
}

// apart holds that no two lists, and no two texts, of what is told share memory, and that none is shared with what was handed in.
func apart(t *testing.T, told any, given ...any) {
	t.Helper()
	mine := stretches(told)
	for i := range mine[:max(len(mine)-1, 0)] {
		if mine[i].to > mine[i+1].from && mine[i].to-mine[i].from > 1 { // Go keeps texts of a byte once
			t.Fatalf("two lists of an answer share memory")
		}
	}
	for _, s := range stretches(given...) {
		if s.to-s.from == 1 {
			continue
		}
		i, _ := slices.BinarySearchFunc(mine, s.from, func(m stretch, from uintptr) int { return int(int64(m.to) - int64(from) - 1) })
		if i < len(mine) && mine[i].from < s.to && mine[i].to > s.from && mine[i].to-mine[i].from > 1 {
			t.Fatalf("an answer shares memory with what was handed in")
		}
	}
	runtime.KeepAlive(told)
	runtime.KeepAlive(given)
}

// TestToldIsNew: P11.3 (R2): what is told shares no memory.
func TestToldIsNew(t *testing.T) {
	plans, d := rich()
	long := strings.Repeat("long", 3)
	plans = append(plans, values("name", row(text(long)), row(list(text(long), list(text(long)))), row(text(long))), unwind(values("name", row(list(text(long), list(text(long))))), "other", at("name")), groupBy(values("name", row(text(long)), row(text(long))), "name", agg("max", at("name")), agg("collect", at("name"))))
	for _, p := range plans {
		got, err := Eval(p, d)
		if err != api.OK {
			t.Fatal(err)
		}
		apart(t, got, p, d)
		again, _ := Eval(p, d)
		apart(t, got, again)
		want := show(got)
		for _, r := range again.Rows {
			for i := range r {
				for k := range r[i].List {
					r[i].List[k] = num(99)
				}
				r[i] = num(98)
			}
		}
		if show(got) != want || everything(p, d) != "0 "+want {
			t.Errorf("written over: %s; want %s", show(got), want)
		}
	}
	l := []api.Value{list(text(long), list(text(long))), text(long), tagged(long, long+"x")}
	for lang, names := range [][]string{{"min", "max", "collect"}, {"sample", "min", "max", "concat"}} {
		for _, name := range names {
			given := l
			if name == "concat" {
				given = l[1:2]
			}
			got, err := Aggregate(lang, of(name), given, 3)
			if err != api.OK {
				t.Fatal(name, err)
			}
			apart(t, got, given)
		}
	}
}

// TestBehindIsNotRead: P11.3 (R2): what stands behind a list's length has no part in what is told.
func TestBehindIsNotRead(t *testing.T) {
	bad := api.Plan{Op: 99, Lang: 7}
	p := join(values("a", row(num(1))), values("b", row(num(2))))
	p.In = append(p.In, bad)[:2]
	p.E, p.Vars, p.Sorts = []api.Expr{{}}[:0], []string{"9"}[:0], []api.Sort{{}}[:0]
	p.In[0].Rows = append(p.In[0].Rows, row(iri("")))[:1]
	tellsBoth(t, p, "a b: 1 2")
	d := store("a p b. 1 p 2")
	d.T = d.T[:1]
	tellsS(t, bgp("?x p ?y"), d, "x y: <a> <b>")
	g := drawn("1 2 5=1>2:T 6=1>9:T")
	g.G.Edges = g.G.Edges[:1]
	tells(t, match(unit(), "a b", "a-r>b"), g, "a b r: (1) (2) [5]")
	aggregatesBoth(t, of("sum"), "3", []api.Value{num(1), num(2), text("a"), {Kind: -1}}[:2]...)
}

// TestEmptyLists: P11.3 (R2): nil and empty lists are one.
func TestEmptyLists(t *testing.T) {
	p := api.Plan{Op: api.PProject, Vars: []string{}, Rows: [][]api.Value{}, E: []api.Expr{}, Sorts: []api.Sort{}, Aggs: []api.Agg{}, Hops: []api.Hop{}, In: []api.Plan{values("a", row(api.Value{Kind: api.KList, List: []api.Value{}}))}}
	tellsBoth(t, p, ": ()")
	empty := api.Value{Kind: api.KList, List: []api.Value{}}
	tellsBoth(t, groupBy(values("a", row(empty), row(list())), "a", agg("count")), "a a1: [] 2")
	tellsBoth(t, join(values("a", row(empty)), values("a", row(list()))), "a: []")
	got, err := Eval(unit(), api.Data{T: []api.Triple{}, G: api.Graph{Nodes: []api.Node{}, Edges: []api.Edge{}}})
	if err != api.OK || len(got.Rows) != 1 {
		t.Errorf("%d, %v", err, got)
	}
}

// TestEndsWithPlans: P11.3 (R3): whatever is handed in as a plan.
func TestEndsWithPlans(t *testing.T) {
	deep := unit()
	for range 1 << 16 {
		deep = distinct(deep)
	}
	within := unit()
	for range 1 << 15 {
		within = filter(unit(), exists(within))
	}
	nested := num(1)
	for range 1 << 16 {
		nested = list(nested)
	}
	never := yes
	for range 1 << 16 {
		never = op(api.ENot, never)
	}
	many := slices.Repeat([]api.Plan{unit()}, 1<<16)
	wide := match(unit(), "a")
	wide.Hops = slices.Repeat([]api.Hop{{From: "a", To: "a", Edge: "r"}}, 1<<17)
	for _, p := range []api.Plan{
		deep, within, filter(unit(), never), filter(unit(), lit(nested)), values("a", row(nested)), in(api.LangS, api.Plan{Op: api.PBgp, Bgp: []api.Pattern{{S: nested, P: nested, O: nested}}}), plan(api.PJoin, api.Plan{}, many...), plan(api.PUnit, api.Plan{}, many...), wide,
		{Op: api.PFilter, E: []api.Expr{{Op: api.EExists}}}, {Op: api.PMinus}, {Op: api.PMatch}, {Op: api.PExtend}, {Op: api.PGroup, Vars: []string{"x"}}, {Op: api.PSlice}, {Op: api.POrder}, {Op: -1 << 63}, {Lang: 1 << 62, Op: api.PUnit},
	} {
		if _, err := Eval(p, api.Data{}); err != api.ErrPlan {
			t.Errorf("%d; want ErrPlan of%s", err, short(p))
		}
	}
	tall := unit()
	for range api.MaxParts - 1 {
		tall = distinct(tall)
	}
	tellsBoth(t, tall, ": ()")
	asked := unit()
	for range (api.MaxParts - 1) / 3 {
		asked = filter(unit(), exists(asked))
	}
	if !algebra.Check(asked) {
		t.Fatal("not as many parts as may be")
	}
	tellsBoth(t, asked, ": ()")
	hops := match(unit(), "a")
	for i := range api.MaxVars - 1 {
		hops.Hops = append(hops.Hops, api.Hop{From: "a", Edge: fmt.Sprint("r", i), To: "a"})
	}
	tells(t, hops, drawn("1 5=1>1:T"), "a "+strings.Join(edgeVars(hops), " ")+":")
	patterns := in(api.LangS, api.Plan{Op: api.PBgp, Bgp: slices.Repeat(bgp("?x p ?y").Bgp, api.MaxVars)})
	tells(t, patterns, store("a p b. b p c"), "x y: <a> <b> | <b> <c>")
	aggregateErrs(t, api.LangC, of("sum"), 9, api.ErrArg, nested)
	aggregateErrs(t, api.LangC, agg("sum", never), 9, api.ErrArg, num(1))
}

// TestEndsWithData: P11.3 (R3): whatever is handed in as data.
func TestEndsWithData(t *testing.T) {
	nested := num(1)
	for range 1 << 16 {
		nested = list(nested)
	}
	for _, l := range [][]api.Triple{{{}}, {{S: nested, P: iri("p"), O: nested}}, {{S: iri("a"), P: iri("p"), O: nested}}, make([]api.Triple, 1<<18)} {
		errs(t, in(api.LangS, bgp("?x p ?y")), api.Data{T: l}, api.ErrTriple)
		tells(t, unit(), api.Data{T: l}, ": ()")
	}
	for _, g := range []api.Graph{{Nodes: make([]api.Node, 2)}, {Nodes: make([]api.Node, 1<<18)}, {Edges: make([]api.Edge, 1)}, {Nodes: []api.Node{{Labels: []string{""}}}}, {Nodes: []api.Node{{Props: []api.Pair{{Key: "k", V: nested}}}}}, {Nodes: make([]api.Node, 1), Edges: []api.Edge{{To: 1, Type: "T"}}}} {
		errs(t, match(unit(), "a"), api.Data{G: g}, api.ErrGraph)
		tellsS(t, unit(), api.Data{G: g}, ": ()")
	}
}

// TestTooLongText: a text of a list may be longer than a value may be; it is none in S, in which no evaluation errs.
func TestTooLongText(t *testing.T) {
	half := text(strings.Repeat("x", api.MaxText/2))
	l := values("l", row(list(half, half)), row(list(num(1), iri("a"))))
	tellsS(t, project(extend(l, "s", call("text", at("l"))), "s"), api.Data{}, `s: - | "[1, <a>]"`)
	tellsS(t, join(project(extend(l, "s", call("text", at("l"))), "s"), values("s", row(text("a")))), api.Data{}, `s: "a"`)
	errs(t, extend(l, "s", call("text", at("l"))), api.Data{}, api.ErrEval)
}

// TestAskedAtOnce: P11.3 (R6): many may ask at once.
func TestAskedAtOnce(t *testing.T) {
	plans, d := rich()
	var all sync.WaitGroup
	for _, p := range plans {
		want := everything(p, d)
		for range 4 {
			all.Go(func() {
				if got := everything(p, d); got != want {
					t.Errorf("%s; want %s", got, want)
				}
			})
		}
	}
	all.Wait()
}

// TestNothingIsKept: P11.3 (R6): an answer hangs on what is handed in alone.
func TestNothingIsKept(t *testing.T) {
	plans, d := rich()
	var first []string
	for _, p := range plans {
		first = append(first, everything(p, d))
	}
	errs(t, extend(unit(), "y", fault), api.Data{}, api.ErrEval)
	for i, p := range slices.Backward(plans) {
		everything(p, api.Data{})
		if got := everything(p, d); got != first[i] {
			t.Errorf("%d: %s; want %s", i, got, first[i])
		}
	}
}

// TestFace: the face stands as it is given.
func TestFace(t *testing.T) {
	var _ func(api.Plan, api.Data) (api.Table, api.Errno) = Eval
	var _ func(int, api.Expr, []api.Value, int) (api.Value, api.Errno) = Aggregate
}
