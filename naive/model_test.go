package naive

import (
	"fmt"
	"math/rand"
	"slices"
	"strings"
	"testing"

	"diptych/algebra"
	"diptych/api"
	"diptych/expr"
	"diptych/logic"
	"diptych/value"
)

// record is a row of the model: its cells by their variables, with those that are none.
type record map[string]api.Value

// bag is a table of the model.
type bag struct {
	vars []string
	l    []record
}

// model evaluates plans by the chapter's words, as slowly as they are written. It tries all values for all variables.
type model struct {
	lang  int
	t     []api.Triple // as they are handed in
	g     api.Graph
	err   api.Errno // C's, once it is there
	steps int       // how many more there may be
}

// modelEnv is where the model evaluates an expression.
type modelEnv struct {
	m    *model
	vars []string
	r    record
}

func (e modelEnv) Var(name string) api.Value { return e.r[name] }

func (e modelEnv) Prop(v api.Value, key string) api.Value {
	for _, n := range e.m.g.Nodes {
		if v.Kind == api.KNode && n.ID == v.Int {
			if key == "\x00labels" {
				l := slices.Sorted(slices.Values(n.Labels))
				return list(mapped(l, text)...)
			}
			return propOf(n.Props, key)
		}
	}
	for _, x := range e.m.g.Edges {
		if v.Kind == api.KEdge && x.ID == v.Int {
			if key == "\x00type" {
				return text(x.Type)
			}
			return propOf(x.Props, key)
		}
	}
	return none
}

func propOf(l []api.Pair, key string) api.Value {
	for _, p := range l {
		if p.Key == key {
			return p.V
		}
	}
	return none
}

func (e modelEnv) Exists(p api.Plan) (bool, api.Errno) {
	b := e.m.eval(p, bag{e.vars, []record{e.r}})
	return len(b.l) > 0, e.m.err
}

// value tells an expression's value, and whether it errs; an error of C stays.
func (m *model) value(e api.Expr, vars []string, r record) (api.Value, bool) {
	v, err := expr.Eval(m.lang, e, modelEnv{m, vars, r})
	if err != api.OK && m.lang == api.LangC {
		m.err = api.ErrEval
	}
	return v, err == api.OK
}

func (m *model) holds(e api.Expr, vars []string, r record) bool {
	v, ok := m.value(e, vars, r)
	if !ok {
		return false
	}
	a, err := logic.Of(m.lang, v)
	if err != api.OK && m.lang == api.LangC {
		m.err = api.ErrEval
	}
	return err == api.OK && a == api.True
}

func (r record) with(name string, v api.Value) record {
	s := record{name: v}
	for k, w := range r {
		if k != name {
			s[k] = w
		}
	}
	return s
}

// met tells what two records make together, if they are compatible.
func met(a, b record) (record, bool) {
	r := record{}
	for k, v := range a {
		r[k] = v
	}
	for k, v := range b {
		switch w, there := r[k]; {
		case !there || w.Kind == api.KNull:
			r[k] = v
		case v.Kind != api.KNull && !value.Same(v, w):
			return nil, false
		}
	}
	return r, true
}

func namesOf(lists ...[]string) []string {
	var l []string
	for _, name := range slices.Concat(lists...) {
		if !slices.Contains(l, name) {
			l = append(l, name)
		}
	}
	return l
}

func (m *model) join(a, b bag) bag {
	out := bag{vars: namesOf(a.vars, b.vars)}
	for _, r := range a.l {
		for _, s := range b.l {
			m.steps--
			if both, ok := met(r, s); ok {
				out.l = append(out.l, both)
			}
		}
	}
	return out
}

func (m *model) eval(p api.Plan, unit bag) bag {
	var in []bag
	for _, q := range p.In {
		in = append(in, m.eval(q, unit))
	}
	m.steps--
	if m.steps < 0 {
		return bag{vars: unit.vars}
	}
	switch p.Op {
	case api.PUnit:
		return unit
	case api.PValues:
		return toBag(api.Table{Vars: p.Vars, Rows: p.Rows})
	case api.PBgp:
		return m.bgp(p)
	case api.PMatch:
		return m.match(p, in[0])
	case api.PJoin:
		return m.join(in[0], in[1])
	case api.PLeft:
		return m.left(p, in[0], in[1])
	case api.PUnion:
		return bag{namesOf(in[0].vars, in[1].vars), slices.Concat(in[0].l, in[1].l)}
	case api.PMinus:
		return m.minus(in[0], in[1])
	case api.PGroup:
		return m.group(p, in[0])
	}
	return m.body(p, in[0])
}

func toBag(t api.Table) bag {
	b := bag{vars: t.Vars}
	for _, row := range t.Rows {
		r := record{}
		for i, v := range row {
			r[t.Vars[i]] = v
		}
		b.l = append(b.l, r)
	}
	return b
}

func (b bag) cells(r record) []api.Value {
	return mapped(b.vars, func(name string) api.Value { return r[name] })
}

func (m *model) bgp(p api.Plan) bag {
	var vars []string
	var all []api.Value
	for _, q := range p.Bgp {
		for _, part := range []api.Value{q.S, q.P, q.O} {
			if part.Kind == api.KNull {
				vars = namesOf(vars, []string{part.Text})
			}
		}
	}
	for _, t := range m.t {
		for _, v := range []api.Value{t.S, t.P, t.O} {
			if !slices.ContainsFunc(all, func(w api.Value) bool { return value.Same(v, w) }) {
				all = append(all, v)
			}
		}
	}
	out := bag{vars: vars}
	for r := range m.every(record{}, vars, func(string) []api.Value { return all }) {
		if everyOf(p.Bgp, func(q api.Pattern) bool { return m.isTriple(q, r) }) {
			out.l = append(out.l, r)
		}
	}
	return out
}

func everyOf[T any](l []T, holds func(T) bool) bool {
	return !slices.ContainsFunc(l, func(v T) bool { return !holds(v) })
}

// every tells all ways to give the names values.
func (m *model) every(r record, names []string, values func(name string) []api.Value) func(yield func(record) bool) {
	all := []record{r}
	for _, name := range names {
		var more []record
		for _, r := range all {
			for _, v := range values(name) {
				m.steps--
				if m.steps >= 0 {
					more = append(more, r.with(name, v))
				}
			}
		}
		all = more
	}
	return slices.Values(all)
}

func (m *model) isTriple(q api.Pattern, r record) bool {
	is := func(v, part api.Value) bool {
		if part.Kind == api.KNull {
			part = r[part.Text]
		}
		return value.Same(v, part)
	}
	return slices.ContainsFunc(m.t, func(t api.Triple) bool { return is(t.S, q.S) && is(t.P, q.P) && is(t.O, q.O) })
}

func (m *model) match(p api.Plan, in bag) bag {
	spots := mapped(p.Spots, func(s api.Spot) string { return s.Var })
	edges := mapped(p.Hops, func(h api.Hop) string { return h.Edge })
	out := bag{vars: namesOf(in.vars, spots, edges)}
	choices := func(name string) []api.Value {
		if slices.Contains(edges, name) {
			return mapped(m.g.Edges, func(e api.Edge) api.Value { return edge(e.ID) })
		}
		return mapped(m.g.Nodes, func(n api.Node) api.Value { return node(n.ID) })
	}
	for _, r := range in.l {
		found := false
		for way := range m.every(record{}, slices.Concat(spots, edges), choices) {
			if !m.isWay(p, in.vars, r, way) {
				continue
			}
			for k, v := range r {
				way[k] = v
			}
			if len(p.E) == 0 || m.holds(p.E[0], out.vars, way) {
				out.l, found = append(out.l, way), true
			}
		}
		if p.Flag && !found {
			for _, name := range out.vars {
				if _, there := r[name]; !there {
					r = r.with(name, none)
				}
			}
			out.l = append(out.l, r)
		}
	}
	return out
}

func (m *model) isWay(p api.Plan, has []string, r, way record) bool {
	for _, s := range p.Spots {
		if slices.Contains(has, s.Var) && !value.Same(r[s.Var], way[s.Var]) {
			return false
		}
		for _, n := range m.g.Nodes {
			if n.ID == way[s.Var].Int && !everyOf(s.Labels, func(l string) bool { return slices.Contains(n.Labels, l) }) {
				return false
			}
		}
	}
	for i, h := range p.Hops {
		for _, other := range p.Hops[:i] {
			if way[other.Edge].Int == way[h.Edge].Int {
				return false
			}
		}
		from, to := way[h.From].Int, way[h.To].Int
		for _, e := range m.g.Edges {
			along, against := e.From == from && e.To == to, e.From == to && e.To == from
			fits := h.Dir >= 0 && along || h.Dir <= 0 && against
			if e.ID == way[h.Edge].Int && (!fits || len(h.Types) > 0 && !slices.Contains(h.Types, e.Type)) {
				return false
			}
		}
	}
	return true
}

func (m *model) left(p api.Plan, a, b bag) bag {
	out := bag{vars: namesOf(a.vars, b.vars)}
	for _, r := range a.l {
		found := false
		for _, both := range m.join(bag{a.vars, []record{r}}, b).l {
			if m.holds(p.E[0], out.vars, both) {
				out.l, found = append(out.l, both), true
			}
		}
		if !found {
			out.l = append(out.l, r)
		}
	}
	return out
}

func (m *model) minus(a, b bag) bag {
	out := bag{vars: a.vars}
	for _, r := range a.l {
		takes := func(s record) bool {
			_, ok := met(r, s)
			return ok && slices.ContainsFunc(a.vars, func(name string) bool { return r[name].Kind != api.KNull && s[name].Kind != api.KNull })
		}
		if !slices.ContainsFunc(b.l, takes) {
			out.l = append(out.l, r)
		}
	}
	return out
}

func (m *model) group(p api.Plan, in bag) bag {
	var parts [][]record
	if len(p.Vars) == 0 {
		parts = [][]record{in.l}
	} else {
		for _, r := range in.l {
			alike := func(l []record) bool {
				return everyOf(p.Vars, func(name string) bool { return value.Same(l[0][name], r[name]) })
			}
			if i := slices.IndexFunc(parts, alike); i >= 0 {
				parts[i] = append(parts[i], r)
			} else {
				parts = append(parts, []record{r})
			}
		}
	}
	out := bag{vars: slices.Clone(p.Vars)}
	for _, a := range p.Aggs {
		out.vars = append(out.vars, a.Var)
	}
	for _, part := range parts {
		r := record{}
		for _, name := range p.Vars {
			r[name] = part[0][name]
		}
		for _, a := range p.Aggs {
			r[a.Var] = m.aggregate(a.E, in.vars, part)
		}
		out.l = append(out.l, r)
	}
	return out
}

func (m *model) aggregate(a api.Expr, vars []string, part []record) api.Value {
	var l []api.Value
	bad := false
	for _, r := range part {
		if len(a.Args) == 0 {
			break
		}
		v, ok := m.value(a.Args[0], vars, r)
		switch {
		case !ok:
			bad = true
		case m.lang == api.LangS || v.Kind != api.KNull:
			l = append(l, v)
		}
	}
	if bad && strings.Contains("sum avg min max concat", a.Text) {
		return none
	}
	v, err := Aggregate(m.lang, a, l, len(part))
	if err != api.OK && m.lang == api.LangC {
		m.err = api.ErrEval
	}
	return v
}

func (m *model) body(p api.Plan, in bag) bag {
	out := bag{vars: in.vars}
	switch p.Op {
	case api.PExtend, api.PUnwind:
		out.vars = append(slices.Clone(in.vars), p.Var)
	case api.PProject:
		out.vars = p.Vars
	case api.POrder:
		return m.order(p, in)
	case api.PSlice:
		return m.slice(p, in)
	}
	for _, r := range in.l {
		switch p.Op {
		case api.PFilter:
			if m.holds(p.E[0], in.vars, r) {
				out.l = append(out.l, r)
			}
		case api.PExtend:
			v, _ := m.value(p.E[0], in.vars, r)
			out.l = append(out.l, r.with(p.Var, v))
		case api.PUnwind:
			v, ok := m.value(p.E[0], in.vars, r)
			if ok && v.Kind != api.KNull && v.Kind != api.KList && m.lang == api.LangC {
				m.err = api.ErrEval
			}
			for _, w := range v.List {
				out.l = append(out.l, r.with(p.Var, w))
			}
		case api.PDistinct:
			again := func(s record) bool { return slices.EqualFunc(in.cells(r), in.cells(s), value.Same) }
			if !slices.ContainsFunc(out.l, again) {
				out.l = append(out.l, r)
			}
		case api.PProject:
			s := record{}
			for _, name := range p.Vars {
				s[name] = r[name]
			}
			out.l = append(out.l, s)
		}
	}
	return out
}

// before tells which of two lists of values stands ahead.
func (m *model) before(a, b []api.Value) int {
	for i := range a {
		if c := value.Order(m.lang, a[i], b[i]); c != 0 {
			return c
		}
	}
	return 0
}

func (m *model) canon(b bag) bag {
	b.l = slices.Clone(b.l)
	slices.SortStableFunc(b.l, func(r, s record) int { return m.before(b.cells(r), b.cells(s)) })
	return b
}

// order sorts by the last key first, each time leaving what stands in order.
func (m *model) order(p api.Plan, in bag) bag {
	out := m.canon(in)
	for i := len(p.Sorts) - 1; i >= 0; i-- {
		s := p.Sorts[i]
		slices.SortStableFunc(out.l, func(r, q record) int {
			a, _ := m.value(s.E, in.vars, r)
			b, _ := m.value(s.E, in.vars, q)
			if s.Down {
				a, b = b, a
			}
			return value.Order(m.lang, a, b)
		})
	}
	for _, r := range in.l {
		for _, s := range p.Sorts {
			m.value(s.E, in.vars, r)
		}
	}
	return out
}

func (m *model) slice(p api.Plan, in bag) bag {
	if p.In[0].Op != api.POrder {
		in = m.canon(in)
	}
	out := bag{vars: in.vars}
	for i, r := range in.l {
		if int64(i) >= p.Skip && (p.Limit < 0 || int64(len(out.l)) < p.Limit) {
			out.l = append(out.l, r)
		}
	}
	return out
}

// evalByModel tells what Eval should; false where the model takes too long.
func evalByModel(p api.Plan, d api.Data) (api.Table, api.Errno, bool) {
	m := &model{lang: p.Lang, t: d.T, g: d.G, steps: 200000}
	out := m.eval(p, bag{nil, []record{{}}})
	if m.steps < 0 {
		return api.Table{}, api.OK, false
	}
	if m.err != api.OK {
		return api.Table{}, m.err, true
	}
	if p.Op != api.POrder && p.Op != api.PSlice {
		out = m.canon(out)
	}
	return api.Table{Vars: out.vars, Rows: mapped(out.l, out.cells)}, api.OK, true
}

// maker makes plans, expressions and data by chance.
type maker struct {
	*rand.Rand
	lang int
}

func pick[T any](k maker, l ...T) T { return l[k.Intn(len(l))] }

func (k maker) name() string { return pick(k, "a", "b", "c", "x", "y", "z") }

func (k maker) value() api.Value {
	if k.lang == api.LangS {
		return pick(k, none, num(1), num(2), dec("1.0"), iri("a"), iri("b"), text("a"), blank("q"), truth(true), tagged("a", "en"), list(num(1), iri("a")))
	}
	return pick(k, none, num(1), num(2), dec("1.0"), node(0), node(1), node(2), edge(0), edge(1), text("a"), truth(true), list(num(1), none), list())
}

// some tells n values of f.
func some[T any](n int, f func() T) []T {
	var l []T
	for range n {
		l = append(l, f())
	}
	return l
}

// variable tells one of those that are there, in S sometimes another one.
func (k maker) variable(there []string) api.Expr {
	if len(there) == 0 || k.lang == api.LangS && k.Intn(12) == 0 {
		if k.lang == api.LangC {
			return lit(k.value())
		}
		return at(k.name())
	}
	return at(pick(k, there...))
}

func (k maker) condition(deep int, there []string) api.Expr {
	if deep > 0 && k.Intn(3) == 0 {
		return op(pick(k, api.EAnd, api.EOr), k.condition(deep-1, there), k.condition(deep-1, there))
	}
	switch k.Intn(8) {
	case 0:
		return op(api.ENot, k.condition(0, there))
	case 1:
		return api.Expr{Op: api.EIsNull, Flag: k.Intn(2) == 0, Args: []api.Expr{k.variable(there)}}
	case 2:
		e := exists(k.plan(deep-1, there))
		e.Flag = k.Intn(2) == 0
		return e
	case 3:
		return lit(truth(k.Intn(3) > 0))
	}
	return op(pick(k, api.EEq, api.ENe, api.ELt, api.ELe, api.EGt, api.EGe), k.scalar(0, there), k.variable(there))
}

// scalar tells an expression of whatever value; now and then it errs.
func (k maker) scalar(deep int, there []string) api.Expr {
	switch k.Intn(12) {
	case 0:
		return op(pick(k, api.EAdd, api.EMul, api.EDiv), k.variable(there), lit(num(int64(k.Intn(5)))))
	case 1:
		return k.condition(deep, there)
	case 2, 3:
		return lit(k.value())
	case 4:
		if k.lang == api.LangC {
			return prop(k.variable(there), pick(k, "k", "l", "\x00labels"))
		}
		return call("text", k.variable(there))
	case 5:
		return call("coalesce", k.variable(there), lit(k.value()))
	}
	return k.variable(there)
}

func (k maker) pattern() api.Pattern {
	s := func(free api.Value, l ...api.Value) api.Value { return pick(k, append(l, free, free, free)...) }
	v := func() api.Value { return free(k.name()) }
	return api.Pattern{S: s(v(), iri("a"), blank("q")), P: pick(k, iri("a"), iri("b"), iri("b"), v()), O: s(v(), iri("b"), num(1))}
}

// plan tells a plan whose PUnits have these variables; it may be one that may not be.
func (k maker) plan(deep int, units []string) api.Plan {
	if deep <= 0 || k.Intn(8) == 0 {
		return k.leaf(units)
	}
	deep--
	a := k.plan(deep, units)
	there := k.vars(a, units)
	switch k.Intn(14) {
	case 0, 1:
		return pick(k, join, both, minus)(a, k.plan(deep, units))
	case 2:
		b := k.plan(deep, units)
		return left(a, b, k.condition(deep, namesOf(there, k.vars(b, units))))
	case 3, 4:
		return filter(a, k.condition(deep, there))
	case 5:
		return extend(a, k.fresh(there), k.scalar(deep, there))
	case 6:
		return unwind(a, k.fresh(there), pick(k, lit(list(k.value(), k.value())), lit(list(k.value())), k.variable(there)))
	case 7:
		return k.groups(deep, a, there)
	case 8:
		return distinct(a)
	case 9:
		return order(a, k.sorts(deep, there)...)
	case 10:
		if k.Intn(2) == 0 {
			a = order(a, k.sorts(deep, there)...)
		}
		return slice(a, int64(k.Intn(4)-1), int64(k.Intn(5)-1))
	case 11:
		return project(a, strings.Join(namesOf(some(k.Intn(3), k.name)), " "))
	}
	if k.lang == api.LangS {
		return join(a, api.Plan{Op: api.PBgp, Bgp: some(1+k.Intn(2), k.pattern)})
	}
	return k.path(deep, a, there)
}

func (k maker) leaf(units []string) api.Plan {
	switch k.Intn(4) {
	case 0:
		return unit()
	case 1:
		if k.lang == api.LangS {
			return api.Plan{Op: api.PBgp, Bgp: some(k.Intn(3), k.pattern)}
		}
		return k.path(0, unit(), units)
	}
	p := values(strings.Join(namesOf(some(1+k.Intn(2), k.name)), " "))
	p.Rows = some(k.Intn(4), func() []api.Value { return some(len(p.Vars), k.value) })
	return p
}

// path tells a PMatch over a.
func (k maker) path(deep int, a api.Plan, there []string) api.Plan {
	spots := namesOf(some(1+k.Intn(3), k.name))
	p := match(a, strings.Join(spots, " "))
	for i := range p.Spots {
		p.Spots[i].Labels = some(k.Intn(8)/6, func() string { return pick(k, "A", "B") })
	}
	for i := range k.Intn(3) {
		h := api.Hop{From: pick(k, spots...), Edge: fmt.Sprint(pick(k, "r", "s", "t"), i), To: pick(k, spots...), Dir: k.Intn(3) - 1}
		if k.Intn(3) == 0 {
			h.Types = some(1+k.Intn(2), func() string { return pick(k, "T", "U") })
		}
		p.Hops = append(p.Hops, h)
	}
	p.Flag = k.Intn(2) == 0
	if p.Flag && k.Intn(2) == 0 {
		edges := mapped(p.Hops, func(h api.Hop) string { return h.Edge })
		p.E = []api.Expr{k.condition(deep, namesOf(there, spots, edges))}
	}
	return p
}

func (k maker) groups(deep int, a api.Plan, there []string) api.Plan {
	p := groupBy(a, "")
	for _, name := range there {
		if k.Intn(2) == 0 {
			p.Vars = append(p.Vars, name)
		}
	}
	for i := range k.Intn(3) {
		e := agg(pick(k, "count", "count", "min", "max", pick(k, "sum", "avg"), []string{"collect", "sample"}[k.lang]), k.scalar(deep, there))
		e.Flag = k.Intn(3) == 0
		if e.Text == "count" && k.Intn(2) == 0 {
			e.Args = nil
		}
		p.Aggs = append(p.Aggs, api.Agg{Var: fmt.Sprint("g", i), E: e})
	}
	return p
}

func (k maker) sorts(deep int, there []string) []api.Sort {
	return some(1+k.Intn(2), func() api.Sort { return api.Sort{E: k.scalar(deep, there), Down: k.Intn(2) == 0} })
}

// fresh tells a name that is not there, if it finds one.
func (k maker) fresh(there []string) string {
	for range 9 {
		if name := k.name(); !slices.Contains(there, name) {
			return name
		}
	}
	return "f"
}

// vars tells the variables of a plan whose PUnits have these.
func (k maker) vars(p api.Plan, units []string) []string {
	m := &model{lang: k.lang, steps: 1 << 20}
	return m.eval(in(k.lang, p), bag{vars: units}).vars
}

func (k maker) data() api.Data {
	var d api.Data
	subject := func() api.Value { return pick(k, iri("a"), iri("b"), blank("q")) }
	d.T = some(k.Intn(7), func() api.Triple {
		return api.Triple{S: subject(), P: pick(k, iri("a"), iri("b")), O: pick(k, subject(), num(1), dec("1.0"), text("a"), tagged("a", "en"))}
	})
	nodes := 1 + k.Intn(3)
	for id := range nodes {
		n := api.Node{ID: int64(id), Labels: namesOf(some(k.Intn(3), func() string { return pick(k, "B", "A") }))}
		if k.Intn(2) == 0 {
			n.Props = []api.Pair{{Key: "k", V: pick(k, num(1), text("a"), list(num(1)))}}
		}
		d.G.Nodes = append(d.G.Nodes, n)
	}
	for id := range k.Intn(5) {
		d.G.Edges = append(d.G.Edges, api.Edge{ID: int64(id), From: int64(k.Intn(nodes)), To: int64(k.Intn(nodes)), Type: pick(k, "T", "U")})
	}
	return d
}

// TestByModel: P11.1: plans of all kinds, by chance, mean what the words say.
func TestByModel(t *testing.T) {
	k := maker{Rand: rand.New(rand.NewSource(11))}
	ends := map[api.Errno]int{}
	rows := 0
	for range 20000 {
		k.lang = k.Intn(2)
		p, d := in(k.lang, k.plan(1+k.Intn(4), nil)), k.data()
		if !algebra.Check(p) {
			ends[api.ErrPlan]++
			errs(t, p, d, api.ErrPlan)
			continue
		}
		want, wantErr, ok := evalByModel(p, d)
		if !ok {
			ends[-1]++
			continue
		}
		got, err := Eval(p, d)
		ends[err]++
		rows += len(got.Rows)
		if err != wantErr || show(got) != show(want) || !slices.EqualFunc(got.Rows, want.Rows, sameRow) || err == api.OK && !slices.Equal(got.Vars, algebra.Vars(p)) {
			t.Fatalf("%d, %s\nwant %d, %s\nof%s\n%+v\nover %+v", err, show(got), wantErr, show(want), short(p), p, d)
		}
	}
	if ends[api.OK] < 15000 || ends[api.ErrEval] < 800 || rows < 15000 {
		t.Errorf("too little is tried: %v, %d rows", ends, rows)
	}
}

func sameRow(a, b []api.Value) bool { return slices.EqualFunc(a, b, value.Same) }
