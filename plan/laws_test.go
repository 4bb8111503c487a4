package plan

import (
	"fmt"
	"math"
	"math/rand"
	"slices"
	"strings"
	"testing"

	"diptych/algebra"
	"diptych/api"
	"diptych/hyper"
	"diptych/rewrite"
)

// maker makes plans of S and options by chance.
type maker struct{ *rand.Rand }

func pick[T any](k maker, l ...T) T { return l[k.Intn(len(l))] }

func (k maker) name() string { return pick(k, "a", "b", "c", "d", "e", "f") }

// triples tells a PBgp, now and then one that makes no hypergraph, or a narrow one.
func (k maker) triples() api.Plan {
	var s strings.Builder
	names := 3 + k.Intn(pick(k, 4, 12))
	part := func() string {
		if k.Intn(5) == 0 {
			return "iri"
		}
		return fmt.Sprint("?v", k.Intn(names))
	}
	for range k.Intn(10) {
		fmt.Fprint(&s, part(), " ", pick(k, "p", "p", part()), " ", part(), ".")
	}
	return triples(s.String())
}

func (k maker) expr(deep int) api.Expr {
	if deep <= 0 {
		return pick(k, yes, no, at(k.name()))
	}
	deep--
	switch k.Intn(6) {
	case 0:
		return op(pick(k, api.EAnd, api.EOr, api.EEq), k.expr(deep), k.expr(deep))
	case 1:
		return op(api.ENot, k.expr(deep))
	case 2:
		return call("if", k.expr(deep), k.expr(deep), k.expr(deep))
	case 3:
		return pick(k, yes, no)
	}
	e := exists(k.plan(deep))
	e.Flag = k.Intn(2) == 0
	return e
}

// plan tells a plan, which may be one that may not be.
func (k maker) plan(deep int) api.Plan {
	if deep <= 0 {
		return pick(k, k.triples(), k.triples(), unit(), values(k.name()))
	}
	deep--
	a := k.plan(deep)
	switch k.Intn(14) {
	case 0, 1:
		return pick(k, join, both, minus)(a, k.plan(deep))
	case 2:
		return left(a, k.plan(deep), k.expr(deep))
	case 3, 4:
		return filter(a, k.expr(deep))
	case 5, 6:
		return pick(k, extend, unwind)(a, pick(k, "n", "m", k.name()), k.expr(deep))
	case 7:
		return groupBy(a, "", agg("count"), agg("max", k.expr(deep)), agg("sample", k.expr(deep)))
	case 8:
		return order(a, k.expr(deep), k.expr(deep))
	case 9:
		return pick(k, distinct(a), slice(a, 1, 2))
	case 10:
		return project(project(a, "a b v1 v2"), "b v1")
	case 11:
		return left(a, unit(), yes)
	case 12:
		return filter(a, pick(k, yes, no))
	}
	return k.triples()
}

func (k maker) options() api.Options {
	return api.Options{Rules: pick(k, 0, api.RuleAll, k.Intn(api.RuleAll+1)), Width: 1 + k.Intn(pick(k, 2, 8)), Seed: pick(k, 0, k.Intn(1000), -k.Intn(1000), int(k.Uint64()), math.MinInt), Join: k.Intn(3), Batch: 1 + k.Intn(api.MaxBatch), Budget: k.Intn(1000)}
}

// met tells the PBgps of p as the chapter words it.
func met(p api.Plan) []api.Plan {
	var l []api.Plan
	if p.Op == api.PBgp {
		l = append(l, p)
	}
	for _, q := range p.In {
		l = append(l, met(q)...)
	}
	exprs := slices.Clone(p.E)
	for _, a := range p.Aggs {
		exprs = append(exprs, a.E)
	}
	for _, s := range p.Sorts {
		exprs = append(exprs, s.E)
	}
	for len(exprs) > 0 { // from the left, what is in one ahead of what is behind it
		for _, q := range exprs[0].Plan {
			l = append(l, met(q)...)
		}
		exprs = slices.Concat(exprs[0].Args, exprs[1:])
	}
	return l
}

// hypergraph tells the variables of each pattern, each once.
func hypergraph(p api.Plan) [][]string {
	edges := [][]string{}
	for _, q := range p.Bgp {
		var e []string
		for _, v := range []api.Value{q.S, q.P, q.O} {
			if v.Kind == api.KNull && !slices.Contains(e, v.Text) {
				e = append(e, v.Text)
			}
		}
		edges = append(edges, e)
	}
	return edges
}

// holds tells what P17.2 to P17.4 say of how p is run, and which errors Bags told.
func holds(t *testing.T, p api.Plan, o api.Options) []api.Errno {
	t.Helper()
	m := made(t, p, o)
	want, err := rewrite.Apply(p, o.Rules)
	if got := m.Plan(); err != api.OK || !alike(got, want) || !algebra.Check(got) || m.Options() != o {
		t.Fatalf("%+v, then %+v, of%s\nnot%s", o, m.Options(), short(got), short(want))
	}
	bgps := met(want)
	if m.Bgps() != len(bgps) {
		t.Fatalf("%d PBgps, not %d, in%s", m.Bgps(), len(bgps), short(want))
	}
	var errs []api.Errno
	for i, b := range bgps {
		errs = append(errs, holdsBags(t, m, i, hypergraph(b)))
		if got := holdsOrder(t, m, i, algebra.Vars(b)); !hangsTogether(hypergraph(b), got) {
			t.Fatalf("%v of %v", got, hypergraph(b))
		}
	}
	return errs
}

func holdsBags(t *testing.T, m *Physical, i int, edges [][]string) api.Errno {
	t.Helper()
	width := m.Options().Width
	want := api.OK
	least, bad := hyper.Width(edges)
	if bad != api.OK {
		want = api.ErrArg
	} else if least > width {
		want = api.ErrWidth
	}
	l, err := m.Bags(i)
	if err != want || err == api.OK && !hyper.Check(edges, l, width) || err != api.OK && l != nil {
		t.Fatalf("Bags(%d): %v, %d; want %d of %v in %d", i, l, err, want, edges, width)
	}
	return err
}

// TestByChance: P17.2 to P17.4: plans and options of all kinds.
func TestByChance(t *testing.T) {
	k := maker{rand.New(rand.NewSource(17))}
	ends := map[string]int{}
	for range 3000 {
		p, o := k.plan(1+k.Intn(6)), k.options()
		if !algebra.Check(p) {
			ends["no plan"]++
			refused(t, p, o, api.ErrPlan)
			continue
		}
		errs := holds(t, p, o)
		ends[fmt.Sprint(min(len(errs), 4), " PBgps")]++
		for _, err := range errs {
			ends[fmt.Sprint("error ", int(err))]++
		}
	}
	for _, end := range []string{"no plan", "0 PBgps", "1 PBgps", "2 PBgps", "3 PBgps", "4 PBgps", fmt.Sprint("error ", int(api.OK)), fmt.Sprint("error ", int(api.ErrArg)), fmt.Sprint("error ", int(api.ErrWidth))} {
		if ends[end] < 80 {
			t.Errorf("too little is tried: %v", ends)
		}
	}
}

// TestSameOfTheSame: P17.3: which order and which bags hangs on the plan and the options alone.
func TestSameOfTheSame(t *testing.T) {
	k := maker{rand.New(rand.NewSource(18))}
	for range 500 {
		p, o := k.plan(1+k.Intn(4)), k.options()
		if !algebra.Check(p) {
			continue
		}
		one, other := made(t, p, o), made(t, looseOf(p), o)
		for i := range one.Bgps() {
			first, err := one.Bags(i)
			again, bad := one.Bags(i)
			second, worse := other.Bags(i)
			if !alike(first, again) || !alike(first, second) || err != bad || err != worse {
				t.Errorf("%v, %d; %v, %d; %v, %d", first, err, again, bad, second, worse)
			}
		}
		if orders(t, one) != orders(t, other) || orders(t, one) != orders(t, one) {
			t.Errorf("%s; %s", orders(t, one), orders(t, other))
		}
	}
}

// TestAllBgps: P17.3: a plan has as many PBgps as are to be seen in it when it is printed.
func TestAllBgps(t *testing.T) {
	k := maker{rand.New(rand.NewSource(19))}
	for range 500 {
		p := k.plan(5)
		if !algebra.Check(p) {
			continue
		}
		n := strings.Count(fmt.Sprintf("%+v ", p), fmt.Sprintf("{Op:%d Lang:%d ", api.PBgp, api.LangS))
		if m := made(t, p, options()); m.Bgps() != n {
			t.Errorf("%d, not %d", m.Bgps(), n)
		}
	}
}
