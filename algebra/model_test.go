package algebra

import (
	"fmt"
	"math/rand"
	"reflect"
	"slices"
	"strings"
	"testing"

	"diptych/api"
	"diptych/expr"
	"diptych/value"
)

// model reads plans by the chapter's words, Op by Op, and counts what it meets.
type model struct {
	lang  int
	parts int
	plans int
	ok    bool
	lines []string
}

func (m *model) needs(ok bool) {
	m.ok = m.ok && ok
}

func readByModel(p api.Plan) (*model, []string) {
	m := &model{lang: p.Lang, ok: p.Lang == api.LangC || p.Lang == api.LangS}
	vars := m.plan(p, nil, 0)
	m.needs(m.parts <= api.MaxParts)
	return m, vars
}

func isNameByModel(s string) bool {
	for i, c := range []byte(s) {
		letter := c == '_' || c >= 'a' && c <= 'z' || c >= 'A' && c <= 'Z'
		if !letter && (i == 0 || c < '0' || c > '9') {
			return false
		}
	}
	return len(s) >= 1 && len(s) <= 64
}

// all tells the union of lists, as they come first.
func all(lists ...[]string) []string {
	var l []string
	for _, name := range slices.Concat(lists...) {
		if !slices.Contains(l, name) {
			l = append(l, name)
		}
	}
	return l
}

func (m *model) unlike(names []string) {
	m.needs(len(all(names)) == len(names))
	for _, name := range names {
		m.needs(isNameByModel(name))
	}
}

func (m *model) word(s string) {
	m.needs(len(s) >= 1 && len(s) <= api.MaxText)
}

// bare asks that p has nothing but these fields.
func (m *model) bare(p api.Plan, fields ...string) {
	v := reflect.ValueOf(p)
	for i := range v.NumField() {
		name, field := v.Type().Field(i).Name, v.Field(i)
		empty := field.IsZero() || field.Kind() == reflect.Slice && field.Len() == 0
		m.needs(empty || name == "Op" || name == "Lang" || name == "In" || slices.Contains(fields, name))
	}
}

func (m *model) expression(e api.Expr, there []string, agg bool) {
	m.needs(expr.Check(m.lang, e) && agg == (e.Op == api.EAgg))
	m.inner(e, there, agg)
}

func (m *model) inner(e api.Expr, there []string, agg bool) {
	m.parts++
	m.needs(agg || e.Op != api.EAgg)
	if e.Op == api.EVar && m.lang == api.LangC {
		m.needs(slices.Contains(there, e.Text))
	}
	for _, arg := range e.Args {
		m.inner(arg, there, false)
	}
	for _, p := range e.Plan {
		m.plan(p, there, -1)
	}
}

// plan tells p's variables; deep is below 0 in an EExists.
func (m *model) plan(p api.Plan, units []string, deep int) []string {
	m.parts++
	m.plans++
	m.needs(p.Lang == m.lang)
	at := len(m.lines)
	if deep >= 0 {
		m.lines = append(m.lines, "")
	}
	var in [][]string
	for _, q := range p.In {
		if deep >= 0 {
			in = append(in, m.plan(q, units, deep+1))
		} else {
			in = append(in, m.plan(q, units, deep))
		}
	}
	m.needs(p.Op >= api.PUnit && p.Op <= api.PProject && len(in) == insOf(p.Op))
	for len(in) < 2 {
		in = append(in, nil)
	}
	vars := m.op(p, in[0], in[1], units)
	m.needs(len(vars) <= api.MaxVars)
	if deep >= 0 {
		m.lines[at] = strings.Repeat("  ", deep) + strings.Join(append([]string{fmt.Sprint(p.Op)}, vars...), " ") + "\n"
	}
	return vars
}

// insOf tells how many plans an Op has.
func insOf(op int) int {
	switch op {
	case api.PUnit, api.PValues, api.PBgp:
		return 0
	case api.PJoin, api.PLeft, api.PUnion, api.PMinus:
		return 2
	}
	return 1
}

func (m *model) op(p api.Plan, a, b, units []string) []string {
	switch p.Op {
	case api.PUnit:
		m.bare(p)
		return units
	case api.PValues:
		m.bare(p, "Vars", "Rows")
		m.unlike(p.Vars)
		for _, row := range p.Rows {
			m.needs(len(row) == len(p.Vars))
			for _, v := range row {
				m.needs(value.Check(v))
			}
		}
		return p.Vars
	case api.PBgp:
		return m.bgp(p)
	case api.PMatch:
		return m.match(p, a)
	case api.PJoin, api.PUnion:
		m.bare(p)
		return all(a, b)
	case api.PMinus:
		m.bare(p)
		return a
	case api.PLeft:
		m.bare(p, "E")
		m.conditions(p, all(a, b))
		return all(a, b)
	case api.PFilter:
		m.bare(p, "E")
		m.conditions(p, a)
		return a
	case api.PExtend, api.PUnwind:
		m.bare(p, "E", "Var")
		m.conditions(p, a)
		m.needs(isNameByModel(p.Var) && !slices.Contains(a, p.Var))
		return append(slices.Clone(a), p.Var)
	}
	return m.body(p, a)
}

func (m *model) conditions(p api.Plan, there []string) {
	m.needs(len(p.E) == 1)
	for _, e := range p.E {
		m.expression(e, there, false)
	}
}

func (m *model) body(p api.Plan, a []string) []string {
	switch p.Op {
	case api.PGroup:
		m.bare(p, "Vars", "Aggs")
		vars := slices.Clone(p.Vars)
		for _, name := range p.Vars {
			m.needs(slices.Contains(a, name))
		}
		for _, agg := range p.Aggs {
			vars = append(vars, agg.Var)
			m.expression(agg.E, a, true)
		}
		m.unlike(vars)
		return vars
	case api.PDistinct:
		m.bare(p)
	case api.POrder:
		m.bare(p, "Sorts")
		m.needs(len(p.Sorts) >= 1 && len(p.Sorts) <= api.MaxVars)
		for _, s := range p.Sorts {
			m.expression(s.E, a, false)
		}
	case api.PSlice:
		m.bare(p, "Skip", "Limit")
		m.needs(p.Skip >= -1 && p.Limit >= -1)
	case api.PProject:
		m.bare(p, "Vars")
		m.unlike(p.Vars)
		return p.Vars
	}
	return a
}

func (m *model) bgp(p api.Plan) []string {
	m.bare(p, "Bgp")
	m.needs(m.lang == api.LangS && len(p.Bgp) <= api.MaxVars)
	var vars []string
	for _, pattern := range p.Bgp {
		for i, v := range []api.Value{pattern.S, pattern.P, pattern.O} {
			kinds := [][]int{{api.KIri, api.KBlank}, {api.KIri}, {api.KIri, api.KBlank, api.KLit, api.KText, api.KBool, api.KInt, api.KDec}}[i]
			if v.Kind == api.KNull {
				m.needs(isNameByModel(v.Text))
				vars = all(vars, []string{v.Text})
				v.Text, kinds = "", append(kinds, api.KNull)
			}
			m.needs(slices.Contains(kinds, v.Kind) && value.Check(v))
		}
	}
	return vars
}

func (m *model) match(p api.Plan, a []string) []string {
	m.bare(p, "Spots", "Hops", "Flag", "E")
	m.needs(m.lang == api.LangC && len(p.Spots) >= 1 && len(p.Spots) <= api.MaxVars)
	var spots, edges []string
	for _, s := range p.Spots {
		spots = append(spots, s.Var)
		for _, label := range s.Labels {
			m.word(label)
		}
	}
	for _, h := range p.Hops {
		edges = append(edges, h.Edge)
		m.needs(slices.Contains(spots, h.From) && slices.Contains(spots, h.To) && !slices.Contains(a, h.Edge) && h.Dir >= -1 && h.Dir <= 1)
		for _, label := range h.Types {
			m.word(label)
		}
	}
	m.unlike(append(slices.Clone(spots), edges...))
	vars := all(a, spots, edges)
	m.needs(len(p.E) == 0 || p.Flag && len(p.E) == 1)
	for _, e := range p.E {
		m.expression(e, vars, false)
	}
	return vars
}

// dice makes plans at random, of few names, so that most may be and many may not.
type dice struct {
	*rand.Rand
	lang int
}

func pick[A any](d *dice, l ...A) A {
	return l[d.Intn(len(l))]
}

func (d *dice) name() string {
	if d.Intn(60) == 0 {
		return pick(d, "", "9", "a b")
	}
	return pick(d, "a", "b", "c", "d", "e", "f", "g", "h", "i", "j", "k", "l")
}

func some[A any](d *dice, most int, make func() A) []A {
	var l []A
	for range d.Intn(most + 1) {
		l = append(l, make())
	}
	return l
}

// variable tells a variable, of those that are there but for few.
func (d *dice) variable(there []string) string {
	if len(there) == 0 || d.Intn(25) == 0 {
		return d.name()
	}
	return pick(d, there...)
}

func (d *dice) expression(deep int, there []string) api.Expr {
	switch d.Intn(9) {
	case 0, 1:
		return variable(d.variable(there))
	case 2:
		if d.Intn(20) == 0 {
			return agg("count")
		}
	case 3, 4:
		return op(pick(d, api.EEq, api.EAnd, api.EAdd), d.expression(deep, there), d.expression(deep, there))
	case 5, 6:
		if deep > 0 {
			return exists(d.plan(deep-1, there))
		}
	}
	if d.Intn(40) == 0 {
		return pick(d, api.Expr{}, op(api.ENot), variable("9"), op(api.EXor, lit(yes), lit(yes)))
	}
	return lit(yes)
}

func (d *dice) value() api.Value {
	return pick(d, api.Value{}, num(1), iri("p"), iri("q"), blank("b"), text("t"), unbound(d.name()), unbound(d.name()), vertex(1))
}

func (d *dice) pattern() api.Pattern {
	may := func() api.Value { return unbound(d.name()) }
	if d.Intn(20) == 0 {
		return api.Pattern{S: d.value(), P: d.value(), O: d.value()}
	}
	return api.Pattern{S: pick(d, may(), iri("s"), blank("b")), P: pick(d, may(), iri("p")), O: pick(d, may(), text("o"), num(2))}
}

// plan makes a plan; units are the variables of its PUnits.
func (d *dice) plan(deep int, units []string) api.Plan {
	p := api.Plan{Op: 1 + d.Intn(api.PProject), Lang: d.lang}
	if deep <= 0 {
		p.Op = pick(d, api.PUnit, api.PValues, api.PBgp)
	}
	if wrong := map[int]int{api.PBgp: api.LangC, api.PMatch: api.LangS}; d.Intn(10) > 0 {
		if lang, there := wrong[p.Op]; there && lang == d.lang {
			p.Op = api.PValues
		}
	}
	ins := insOf(p.Op)
	if d.Intn(100) == 0 {
		ins = d.Intn(3)
	}
	var there []string
	for range ins {
		in := d.plan(deep-1, units)
		m := &model{lang: d.lang}
		there = all(there, m.plan(in, units, -1))
		p.In = append(p.In, in)
	}
	d.fill(&p, deep, there)
	if d.Intn(150) == 0 {
		d.spoil(&p)
	}
	return p
}

func (d *dice) fill(p *api.Plan, deep int, there []string) {
	switch p.Op {
	case api.PValues:
		p.Vars = all(some(d, 3, d.name))
		p.Rows = some(d, 2, func() []api.Value { return slices.Repeat([]api.Value{num(int64(d.Intn(3)))}, len(p.Vars)) })
	case api.PBgp:
		p.Bgp = some(d, 3, d.pattern)
	case api.PMatch:
		p.Spots = append(some(d, 2, func() api.Spot { return api.Spot{Var: d.name()} }), api.Spot{Var: d.name(), Labels: []string{"L"}})
		ends := mapped(p.Spots, func(s api.Spot) string { return s.Var })
		p.Hops = some(d, 2, func() api.Hop {
			return api.Hop{From: d.variable(ends), To: d.variable(ends), Edge: d.name(), Dir: pick(d, -1, 0, 1, 1, 0, -1, 2)}
		})
		p.Flag = d.Intn(2) == 0
		if p.Flag && d.Intn(2) == 0 {
			p.E = []api.Expr{d.expression(deep-1, all(there, ends))}
		}
	case api.PLeft, api.PFilter:
		p.E = []api.Expr{d.expression(deep-1, there)}
	case api.PExtend, api.PUnwind:
		p.Var, p.E = d.name(), []api.Expr{d.expression(deep-1, there)}
	case api.PGroup:
		p.Vars = all(some(d, 2, func() string { return d.variable(there) }))
		p.Aggs = some(d, 2, func() api.Agg { return api.Agg{Var: d.name(), E: agg("count", d.expression(deep-1, there))} })
	case api.POrder:
		p.Sorts = append(some(d, 1, func() api.Sort { return api.Sort{E: d.expression(deep-1, there)} }), api.Sort{E: lit(yes), Down: true})
	case api.PSlice:
		p.Skip, p.Limit = pick[int64](d, -1, 0, 5), pick[int64](d, -1, 0, 7)
	case api.PProject:
		p.Vars = all(some(d, 3, d.name))
	}
}

// spoil gives p something that it may not have, as a rule.
func (d *dice) spoil(p *api.Plan) {
	switch d.Intn(8) {
	case 0:
		p.Lang = d.Intn(4) - 1
	case 1:
		p.Op = d.Intn(20) - 1
	case 2:
		p.Var += "x"
	case 3:
		p.Vars = append(p.Vars, d.name())
	case 4:
		p.E = append(p.E, lit(yes))
	case 5:
		p.Flag = !p.Flag
	case 6:
		p.Limit = -2
	case 7:
		p.Sorts = append(p.Sorts, api.Sort{E: lit(yes)})
	}
}

// TestByModel: P10.1 to P10.3: plans at random, held against the model.
func TestByModel(t *testing.T) {
	d := &dice{Rand: rand.New(rand.NewSource(10))}
	may := 0
	for i := range 40000 {
		d.lang = i % 2
		p := d.plan(1+d.Intn(5), nil)
		m, vars := readByModel(p)
		if Check(p) != m.ok {
			t.Fatalf("Check: %v\n%+v", !m.ok, p)
		}
		if !m.ok {
			isNothing(t, p)
			Vars(p)
			continue
		}
		may++
		if got := Vars(p); !slices.Equal(got, vars) {
			t.Fatalf("Vars: %q; want %q\n%+v", got, vars, p)
		}
		if got := Size(p); got != m.plans {
			t.Fatalf("Size: %d; want %d\n%+v", got, m.plans, p)
		}
		if got := Lines(p); got != strings.Join(m.lines, "") {
			t.Fatalf("Lines:\n%swant\n%s", got, strings.Join(m.lines, ""))
		}
	}
	if may < 8000 || may > 32000 {
		t.Errorf("%d of 40000 may be: the plans say too little", may)
	}
}
