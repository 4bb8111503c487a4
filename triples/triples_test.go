package triples

import (
	"fmt"
	"math"
	"math/rand"
	"reflect"
	"slices"
	"strings"
	"sync"
	"testing"
	"unsafe"

	"diptych/api"
	"diptych/value"
)

func iri(s string) api.Value        { return api.Value{Kind: api.KIri, Text: s} }
func blank(s string) api.Value      { return api.Value{Kind: api.KBlank, Text: s} }
func text(s string) api.Value       { return api.Value{Kind: api.KText, Text: s} }
func lit(s, x string) api.Value     { return api.Value{Kind: api.KLit, Text: s, Extra: x} }
func truth(b bool) api.Value        { return api.Value{Kind: api.KBool, Bool: b} }
func whole(n int64) api.Value       { return api.Value{Kind: api.KInt, Int: n} }
func exact(s string) api.Value      { return api.Value{Kind: api.KDec, Text: s} }
func list(l ...api.Value) api.Value { return api.Value{Kind: api.KList, List: l} }
func numbered(kind int, n int64) api.Value {
	return api.Value{Kind: kind, Int: n}
}
func free(name string) api.Value             { return api.Value{Text: name} }
func triple(s, p, o api.Value) api.Triple    { return api.Triple{S: s, P: p, O: o} }
func pattern(s, p, o api.Value) api.Pattern  { return api.Pattern{S: s, P: p, O: o} }
func three(s, p, o string) api.Triple        { return triple(iri(s), iri(p), iri(o)) }
func sameTriple(a, b api.Triple) bool        { return slices.EqualFunc(partsOf(a), partsOf(b), value.Same) }
func sameTriples(a, b []api.Triple) bool     { return slices.EqualFunc(a, b, sameTriple) }
func partsOf(t api.Triple) []api.Value       { return []api.Value{t.S, t.P, t.O} }
func patternParts(p api.Pattern) []api.Value { return []api.Value{p.S, p.P, p.O} }

func show(l []api.Triple) string {
	var texts []string
	for _, t := range l {
		texts = append(texts, fmt.Sprintf("(%.40s %.40s %.40s)", value.Text(t.S), value.Text(t.P), value.Text(t.O)))
	}
	return strings.Join(texts, " ")
}

func load(t *testing.T, l ...api.Triple) *Store {
	t.Helper()
	s, err := Load(l)
	if err != api.OK || s == nil {
		t.Fatalf("Load of %d triples: %v, %d", len(l), s, err)
	}
	return s
}

func compareTriples(a, b api.Triple) int {
	return slices.CompareFunc(partsOf(a), partsOf(b), func(x, y api.Value) int { return value.Order(api.LangS, x, y) })
}

// sorted tells l in the order of triples, each once: as a store is meant to.
func sorted(l []api.Triple) []api.Triple {
	l = slices.Clone(l)
	slices.SortFunc(l, compareTriples)
	return slices.CompactFunc(l, sameTriple)
}

var (
	subjects   = []api.Value{blank("A"), blank("a"), iri("a"), iri("b"), iri("p")}
	predicates = []api.Value{iri("a"), iri("b"), iri("p"), iri("q")}
	objects    = []api.Value{
		blank("A"), blank("a"), blank("b"), iri("a"), iri("b"), iri("p"), iri("é"), lit("", "en"), lit("a", "en"), lit("a", "xsd"), lit("b", "de"),
		text(""), text("\x00"), text("a"), text("ab"), text("b"), truth(false), truth(true),
		whole(math.MinInt64), exact("-1.5"), whole(0), exact("0.0"), exact("0.5"), whole(3), exact("3.0"), whole(10), whole(math.MaxInt64),
	}
	orderNames = []string{"spo", "sop", "pso", "pos", "osp", "ops"}
)

// every tells all triples of the values above, in their order.
func every() []api.Triple {
	var l []api.Triple
	for _, s := range subjects {
		for _, p := range predicates {
			for _, o := range objects {
				l = append(l, triple(s, p, o))
			}
		}
	}
	return l
}

// some tells so many of them, in any order, some of them again and again.
func some(random *rand.Rand, n int) []api.Triple {
	all := every()
	var l []api.Triple
	for range n {
		l = append(l, all[random.Intn(len(all))])
	}
	return l
}

var longest = strings.Repeat("x", api.MaxText)

// strangers are values that may not be.
func strangers() []api.Value {
	return []api.Value{
		{Kind: -1}, {Kind: api.KLit + 1}, {Kind: math.MaxInt}, {Kind: math.MinInt},
		iri(""), iri("a b"), iri("<a>"), iri(longest + "x"), {Kind: api.KIri, Text: "a", Int: 1}, {Kind: api.KIri, Text: "a", Extra: "x"}, {Kind: api.KIri, Text: "a", Bool: true}, {Kind: api.KIri, Text: "a", List: []api.Value{{}}},
		blank(""), blank("1"), blank("a-b"), {Kind: api.KBlank, Text: "a", Int: 1},
		lit("a", ""), lit("a", "a b"), lit(longest+"x", "en"), {Kind: api.KLit, Text: "a", Extra: "en", Int: 1},
		text(longest + "x"), {Kind: api.KText, Text: "a", Extra: "x"}, {Kind: api.KBool, Int: 1}, {Kind: api.KBool, Bool: true, Text: "a"},
		{Kind: api.KInt, Text: "1"}, {Kind: api.KInt, Int: 3, Bool: true}, exact(""), exact("3"), exact("3.00"), exact("-0.0"), exact("x"), {Kind: api.KDec, Text: "3.0", Int: 3},
		numbered(api.KNode, -1), numbered(api.KEdge, -1), list(api.Value{Kind: -1}),
	}
}

// TestCheck: a triple may be: what may stand as S, as P and as O.
func TestCheck(t *testing.T) {
	allowed := map[int]string{api.KIri: "spo", api.KBlank: "so", api.KLit: "o", api.KText: "o", api.KBool: "o", api.KInt: "o", api.KDec: "o"}
	fits := []api.Value{
		{}, truth(false), truth(true), whole(0), whole(-5), exact("3.5"), text(""), text("a"), text(longest), list(), list(whole(1)), numbered(api.KNode, 0), numbered(api.KEdge, 0),
		iri("a"), iri(longest), blank("a"), blank("_9"), lit("", "en"), lit(longest, "en"), {Kind: api.KIri, Text: "a", List: []api.Value{}},
	}
	for _, v := range fits {
		for place, u := range []api.Triple{triple(v, iri("p"), iri("o")), triple(iri("s"), v, iri("o")), triple(iri("s"), iri("p"), v)} {
			want := strings.Contains(allowed[v.Kind], "spo"[place:place+1])
			if Check(u) != want {
				t.Errorf("Check of kind %d, %.20q, as %c: %v", v.Kind, v.Text, "spo"[place], !want)
			}
		}
	}
	for _, v := range strangers() {
		for place, u := range []api.Triple{triple(v, iri("p"), iri("o")), triple(iri("s"), v, iri("o")), triple(iri("s"), iri("p"), v)} {
			if Check(u) {
				t.Errorf("Check of kind %d, %.20q, which may not be, as %c: true", v.Kind, v.Text, "spo"[place])
			}
		}
	}
}

// TestLoad: P5.1: the triples in their order, each once.
func TestLoad(t *testing.T) {
	a, b, c := three("a", "p", "b"), three("a", "p", "c"), three("b", "q", "c")
	for _, l := range [][]api.Triple{nil, {}, {a}, {a, a, a}, {c, b, a}, {b, a, c, a, b}, every(), {triple(iri("a"), iri("p"), exact("3.0")), triple(iri("a"), iri("p"), whole(3)), triple(iri("a"), iri("p"), text("3"))}} {
		s, want := load(t, l...), sorted(l)
		if got := s.All(); !sameTriples(got, want) || s.Len() != len(want) {
			t.Errorf("All of %s: %s, Len %d", show(l), show(got), s.Len())
		}
	}
	random := rand.New(rand.NewSource(5))
	for range 50 {
		l := some(random, random.Intn(900))
		s, want := load(t, l...), sorted(l)
		if !sameTriples(s.All(), want) || s.Len() != len(want) {
			t.Errorf("All of %d triples: %d, not the %d that they are", len(l), s.Len(), len(want))
		}
	}
}

// TestOrder: P5.1: by S, then by P, then by O, all in the order of S's values.
func TestOrder(t *testing.T) {
	want := every()
	l := slices.Clone(want)
	slices.Reverse(l)
	if got := load(t, l...).All(); !sameTriples(got, want) {
		t.Errorf("All: %s", show(got))
	}
}

// TestLoadNone: P5.1: one triple that may not be is enough, wherever it stands.
func TestLoadNone(t *testing.T) {
	good := every()
	var bad []api.Triple
	for _, v := range append(strangers(), api.Value{}, numbered(api.KNode, 0), list()) {
		bad = append(bad, triple(v, iri("p"), iri("o")), triple(iri("s"), v, iri("o")), triple(iri("s"), iri("p"), v))
	}
	for _, u := range append(bad, triple(text("s"), iri("p"), iri("o")), triple(iri("s"), blank("p"), iri("o")), api.Triple{}) {
		for _, at := range []int{0, 7, len(good)} {
			if s, err := Load(slices.Insert(slices.Clone(good), at, u)); s != nil || err != api.ErrTriple {
				t.Fatalf("Load with %s at %d: %v, %d; want ErrTriple", show([]api.Triple{u}), at, s, err)
			}
		}
	}
}

// TestLoadMany: P5.1: the cap is of the triples that are handed in.
func TestLoadMany(t *testing.T) {
	var l []api.Triple
	for i := range api.MaxData + 1 {
		l = append(l, triple(iri(fmt.Sprint("s", i%300)), iri(fmt.Sprint("p", i%7)), whole(int64(-i))))
	}
	s := load(t, l[:api.MaxData]...)
	if s.Len() != api.MaxData || !sameTriples(s.All(), sorted(l[:api.MaxData])) {
		t.Errorf("%d triples: %d", api.MaxData, s.Len())
	}
	if s, err := Load(l); s != nil || err != api.ErrTriple {
		t.Errorf("%d triples: %v, %d; want ErrTriple", len(l), s, err)
	}
	for i := range l {
		l[i] = l[0]
	}
	if s := load(t, l[:api.MaxData]...); s.Len() != 1 {
		t.Errorf("one triple %d times: %d", api.MaxData, s.Len())
	}
	if s, err := Load(l); s != nil || err != api.ErrTriple {
		t.Errorf("one triple %d times: %v, %d; want ErrTriple", len(l), s, err)
	}
}

// fits tells whether u fits p, by the words of P5.2.
func fits(p api.Pattern, u api.Triple) bool {
	wanted, have := patternParts(p), partsOf(u)
	for i, v := range wanted {
		if v.Kind != api.KNull && !value.Same(v, have[i]) {
			return false
		}
		for j, w := range wanted {
			if v.Kind == api.KNull && w.Kind == api.KNull && v.Text != "" && v.Text == w.Text && !value.Same(have[i], have[j]) {
				return false
			}
		}
	}
	return true
}

func checkMatch(t *testing.T, s *Store, p api.Pattern) {
	t.Helper()
	var want []api.Triple
	for _, u := range s.All() {
		if fits(p, u) {
			want = append(want, u)
		}
	}
	if got := s.Match(p); !sameTriples(got, want) || len(want) == 0 && got != nil {
		t.Errorf("Match(%.200v): %s; want %s", p, show(got), show(want))
	}
	if n := s.Count(p); n != len(want) {
		t.Errorf("Count(%.200v): %d; want %d", p, n, len(want))
	}
}

// TestMatch: P5.2: patterns of every form, told by hand.
func TestMatch(t *testing.T) {
	s := load(t, three("b", "q", "c"), three("a", "p", "c"), three("a", "p", "b"), three("a", "a", "a"), three("c", "p", "c"), three("p", "p", "b"), three("b", "p", "p"), triple(iri("a"), iri("p"), whole(3)), triple(iri("a"), iri("q"), exact("3.0")))
	x, y, any := free("x"), free("y"), free("")
	for _, test := range []struct {
		p    api.Pattern
		want string
	}{
		{pattern(any, any, any), "(<a> <a> <a>) (<a> <p> <b>) (<a> <p> <c>) (<a> <p> 3) (<a> <q> 3.0) (<b> <p> <p>) (<b> <q> <c>) (<c> <p> <c>) (<p> <p> <b>)"},
		{pattern(iri("a"), x, y), "(<a> <a> <a>) (<a> <p> <b>) (<a> <p> <c>) (<a> <p> 3) (<a> <q> 3.0)"},
		{pattern(x, iri("p"), y), "(<a> <p> <b>) (<a> <p> <c>) (<a> <p> 3) (<b> <p> <p>) (<c> <p> <c>) (<p> <p> <b>)"},
		{pattern(x, y, iri("c")), "(<a> <p> <c>) (<b> <q> <c>) (<c> <p> <c>)"},
		{pattern(iri("a"), iri("p"), x), "(<a> <p> <b>) (<a> <p> <c>) (<a> <p> 3)"},
		{pattern(iri("a"), x, iri("c")), "(<a> <p> <c>)"},
		{pattern(x, iri("p"), iri("b")), "(<a> <p> <b>) (<p> <p> <b>)"},
		{pattern(iri("a"), iri("p"), iri("c")), "(<a> <p> <c>)"},
		{pattern(iri("a"), iri("p"), iri("d")), ""},
		{pattern(x, y, whole(3)), "(<a> <p> 3)"},
		{pattern(x, y, exact("3.0")), "(<a> <q> 3.0)"},
		{pattern(x, y, text("c")), ""},
		{pattern(x, x, y), "(<a> <a> <a>) (<p> <p> <b>)"},
		{pattern(x, y, x), "(<a> <a> <a>) (<c> <p> <c>)"},
		{pattern(y, x, x), "(<a> <a> <a>) (<b> <p> <p>)"},
		{pattern(x, x, x), "(<a> <a> <a>)"},
		{pattern(x, iri("p"), x), "(<c> <p> <c>)"},
		{pattern(x, x, iri("b")), "(<p> <p> <b>)"},
		{pattern(iri("b"), x, x), "(<b> <p> <p>)"},
		{pattern(x, iri("a"), x), "(<a> <a> <a>)"},
	} {
		if got := show(s.Match(test.p)); got != test.want || s.Count(test.p) != strings.Count(test.want, "(") {
			t.Errorf("Match(%v): %s; Count %d; want %s", test.p, got, s.Count(test.p), test.want)
		}
		checkMatch(t, s, test.p)
	}
}

// TestMatchAll: P5.2, P5.5: every part bound or free, against the words.
func TestMatchAll(t *testing.T) {
	random := rand.New(rand.NewSource(6))
	names := []string{"x", "x", "y", "", "not a name", "x\x00"}
	for _, n := range []int{0, 1, 2, 40, 400} {
		s := load(t, some(random, n)...)
		for range 2000 {
			p := pattern(subjects[random.Intn(len(subjects))], predicates[random.Intn(len(predicates))], objects[random.Intn(len(objects))])
			for _, part := range []*api.Value{&p.S, &p.P, &p.O} {
				switch random.Intn(5) {
				case 0, 1, 2:
					*part = free(names[random.Intn(len(names))])
				case 3:
					*part = objects[random.Intn(len(objects))]
				}
			}
			checkMatch(t, s, p)
		}
	}
}

// TestMatchNone: P5.2: parts that may not be fit nothing, but those of KNull, of which only the Text is looked at.
func TestMatchNone(t *testing.T) {
	s := load(t, every()...)
	others := []api.Value{{Kind: api.KNode}, {Kind: api.KEdge, Int: 3}, list(), list(iri("a"))}
	for _, v := range append(strangers(), others...) {
		for _, p := range []api.Pattern{pattern(v, free(""), free("")), pattern(free(""), v, free("")), pattern(free(""), free(""), v), pattern(v, v, v), pattern(iri("a"), iri("p"), v), pattern(v, iri("p"), iri("a")), pattern(iri("a"), v, iri("a")), pattern(free("x"), v, free("x"))} {
			if got := s.Match(p); got != nil || s.Count(p) != 0 {
				t.Errorf("Match with kind %d, %.20q: %s", v.Kind, v.Text, show(got))
			}
		}
	}
	odd := api.Value{Int: -7, Bool: true, Extra: "<", List: []api.Value{{Kind: -1}, whole(1)}}
	odder := odd
	odd.Text, odder.Text = "x", "a b"
	for _, p := range []api.Pattern{pattern(odd, odd, odd), pattern(odd, free("x"), odder), pattern(odd, iri("p"), free("x")), pattern(odder, odder, free("")), pattern(odd, odder, iri("a"))} {
		checkMatch(t, s, p)
		if s.Count(p) == 0 {
			t.Errorf("Count(%v): 0", p)
		}
	}
}

// TestNoOrder: P5.3: orders that there are not.
func TestNoOrder(t *testing.T) {
	wrong := []string{"", "s", "sp", "spop", "spos", "spo ", " spo", "s,p,o", "spo\x00", "xyz", longest}
	for _, a := range "spoSPO" {
		for _, b := range "spoSPO" {
			for _, c := range "spoSPO" {
				if order := string([]rune{a, b, c}); !slices.Contains(orderNames, order) {
					wrong = append(wrong, order)
				}
			}
		}
	}
	for _, s := range []*Store{load(t), load(t, every()...)} {
		for _, order := range wrong {
			if c, err := s.Cursor(order); c != nil || err != api.ErrArg {
				t.Errorf("Cursor(%.20q): %v, %d; want ErrArg", order, c, err)
			}
		}
	}
}

func cursor(t *testing.T, s *Store, order string) *Cursor {
	t.Helper()
	c, err := s.Cursor(order)
	if err != api.OK || c == nil {
		t.Fatalf("Cursor(%s): %v, %d", order, c, err)
	}
	return c
}

// TestExample: P5.4: the chapter's example, and on.
func TestExample(t *testing.T) {
	c := cursor(t, load(t, three("a", "p", "b"), three("a", "p", "c"), three("b", "q", "c")), "pos")
	for i, step := range []struct {
		name  string
		move  func() bool
		moves bool
		key   string
		depth int
	}{
		{"Up above", c.Up, false, "", 0}, {"Next above", c.Next, false, "", 0}, {"Seek above", func() bool { return c.Seek(api.Value{}) }, false, "", 0},
		{"Open", c.Open, true, "p", 1}, {"Open", c.Open, true, "b", 2}, {"Next", c.Next, true, "c", 2},
		{"Next to the end", c.Next, false, "", 2}, {"Next at the end", c.Next, false, "", 2}, {"Open at the end", c.Open, false, "", 2}, {"Seek at the end", func() bool { return c.Seek(api.Value{}) }, false, "", 2},
		{"Up", c.Up, true, "p", 1}, {"Open again", c.Open, true, "b", 2}, {"Up again", c.Up, true, "p", 1},
		{"Next", c.Next, true, "q", 1}, {"Open", c.Open, true, "c", 2}, {"Open", c.Open, true, "b", 3},
		{"Open on the third level", c.Open, false, "b", 3}, {"Next", c.Next, false, "", 3}, {"Open at the end of the third level", c.Open, false, "", 3},
		{"Up", c.Up, true, "c", 2}, {"Up", c.Up, true, "q", 1}, {"Next", c.Next, false, "", 1}, {"Up", c.Up, true, "", 0}, {"Up above", c.Up, false, "", 0}, {"Open", c.Open, true, "p", 1},
	} {
		moved := step.move()
		key, there := c.Key()
		want := api.Value{}
		if step.key != "" {
			want = iri(step.key)
		}
		if moved != step.moves || !reflect.DeepEqual(key, want) || there != (step.key != "") || c.Depth() != step.depth {
			t.Errorf("step %d, %s: %v, at %v, %v, Depth %d; want %v, %s, %d", i, step.name, moved, key, there, c.Depth(), step.moves, step.key, step.depth)
		}
	}
}

// TestEmptyTree: P5.4: above an empty tree there is no way.
func TestEmptyTree(t *testing.T) {
	for _, order := range orderNames {
		c := cursor(t, load(t), order)
		for range 2 {
			key, there := c.Key()
			if c.Open() || c.Next() || c.Seek(api.Value{}) || c.Up() || there || !reflect.DeepEqual(key, api.Value{}) || c.Depth() != 0 {
				t.Errorf("%s: a way in an empty tree", order)
			}
		}
	}
}

// TestSeek: P5.4: from where it stands on, to what is not below.
func TestSeek(t *testing.T) {
	s := load(t, every()...)
	for _, test := range []struct {
		from, v, want api.Value
	}{
		{objects[0], whole(0), whole(0)}, {objects[0], whole(1), whole(3)}, {objects[0], exact("3.0"), exact("3.0")}, {objects[0], exact("0.1"), exact("0.5")},
		{whole(3), whole(3), whole(3)}, {whole(3), whole(-5), whole(3)}, {whole(3), iri("a"), whole(3)}, {exact("3.0"), whole(3), exact("3.0")}, {whole(3), exact("9.9"), whole(10)},
		{objects[0], api.Value{}, objects[0]}, {text("a"), api.Value{}, text("a")}, {objects[0], api.Value{Text: "x", Int: 5}, objects[0]},
		{objects[0], whole(math.MaxInt64), whole(math.MaxInt64)}, {objects[0], exact("9223372036854775807.0"), api.Value{}}, {whole(math.MaxInt64), whole(3), whole(math.MaxInt64)},
		{objects[0], text("aa"), text("ab")}, {objects[0], text("c"), truth(false)}, {objects[0], lit("a", "fr"), lit("a", "xsd")}, {objects[0], iri("z"), iri("é")}, {objects[0], iri("ê"), lit("", "en")}, {objects[0], blank("0"), blank("A")},
		{text("a"), list(text("a")), text("a")}, {iri("a"), numbered(api.KNode, 5), iri("a")}, {iri("a"), numbered(api.KEdge, -5), iri("a")},
		{objects[0], api.Value{Kind: -1}, api.Value{}}, {objects[0], api.Value{Kind: 11}, api.Value{}}, {objects[0], api.Value{Kind: math.MaxInt}, api.Value{}},
		{objects[0], exact(""), exact("0.0")}, {objects[0], exact("x"), exact("0.5")}, {objects[0], exact("0.0"), exact("0.0")}, {objects[0], exact("-9"), exact("0.0")},
		{objects[0], iri(""), iri("a")}, {objects[0], iri("a b"), iri("b")}, {objects[0], api.Value{Kind: api.KIri, Text: "a", Int: 9}, iri("a")}, {objects[0], api.Value{Kind: api.KIri, Text: "a", Extra: "x"}, iri("b")}, {objects[0], api.Value{Kind: api.KInt, Int: 3, Text: "x"}, whole(3)}, {objects[0], text(longest + "x"), truth(false)},
	} {
		c := cursor(t, s, "osp")
		c.Open()
		if !c.Seek(test.from) {
			t.Errorf("Seek of %s, which there is: false", value.Text(test.from))
		}
		ok := c.Seek(test.v)
		key, there := c.Key()
		if !value.Same(key, test.want) || there != (test.want.Kind != api.KNull) || ok != there || c.Depth() != 1 {
			t.Errorf("from %s Seek(kind %d, %.20q, %d): %v, %s, Depth %d; want %s", value.Text(test.from), test.v.Kind, test.v.Text, test.v.Int, ok, value.Text(key), c.Depth(), value.Text(test.want))
		}
	}
}

// tree is a cursor as the words of P5.3 and P5.4 have it: the values of each level stand in a list.
type tree struct {
	rows   [][]api.Value // the triples' parts, by level
	levels [][]api.Value
	at     []int
}

func plant(l []api.Triple, order string) *tree {
	m := &tree{}
	for _, u := range l {
		var r []api.Value
		for _, letter := range order {
			r = append(r, partsOf(u)[strings.IndexRune("spo", letter)])
		}
		m.rows = append(m.rows, r)
	}
	return m
}

// values tells the values below where the tree's cursor stands.
func (m *tree) values() []api.Value {
	var l []api.Value
	depth := len(m.levels)
	for _, r := range m.rows {
		below := depth < 3
		for d := range depth {
			below = below && m.at[d] < len(m.levels[d]) && value.Same(r[d], m.levels[d][m.at[d]])
		}
		if below {
			l = append(l, r[depth])
		}
	}
	slices.SortFunc(l, func(a, b api.Value) int { return value.Order(api.LangS, a, b) })
	return slices.CompactFunc(l, value.Same)
}

func (m *tree) open() bool {
	l := m.values()
	if len(l) > 0 {
		m.levels, m.at = append(m.levels, l), append(m.at, 0)
	}
	return len(l) > 0
}

func (m *tree) up() bool {
	if len(m.at) == 0 {
		return false
	}
	m.levels, m.at = m.levels[:len(m.at)-1], m.at[:len(m.at)-1]
	return true
}

func (m *tree) key() (api.Value, bool) {
	d := len(m.at) - 1
	if d < 0 || m.at[d] == len(m.levels[d]) {
		return api.Value{}, false
	}
	return m.levels[d][m.at[d]], true
}

// pass goes on past the values that stay holds for.
func (m *tree) pass(stay func(v api.Value) bool) bool {
	for v, ok := m.key(); ok && stay(v); v, ok = m.key() {
		m.at[len(m.at)-1]++
	}
	_, ok := m.key()
	return ok
}

func (m *tree) next() bool {
	here, ok := m.key()
	return ok && m.pass(func(v api.Value) bool { return value.Same(v, here) })
}

func (m *tree) seek(v api.Value) bool {
	return m.pass(func(w api.Value) bool { return value.Order(api.LangS, w, v) < 0 })
}

// TestCursor: P5.3, P5.4: walks of every kind, against the words.
func TestCursor(t *testing.T) {
	random := rand.New(rand.NewSource(7))
	odd := append(strangers(), api.Value{}, list(), numbered(api.KNode, 1))
	for round := range 120 {
		l := some(random, []int{0, 1, 3, 30, 500}[round%5])
		s := load(t, l...)
		order := orderNames[random.Intn(len(orderNames))]
		c, m := cursor(t, s, order), plant(l, order)
		for range 400 {
			var did string
			var got, want bool
			switch random.Intn(8) {
			case 0, 1, 2:
				did, got, want = "Open", c.Open(), m.open()
			case 3, 4:
				did, got, want = "Next", c.Next(), m.next()
			case 5:
				did, got, want = "Up", c.Up(), m.up()
			default:
				v := objects[random.Intn(len(objects))]
				if random.Intn(4) == 0 {
					v = odd[random.Intn(len(odd))]
				}
				did, got, want = fmt.Sprintf("Seek(%d, %.20q, %d)", v.Kind, v.Text, v.Int), c.Seek(v), m.seek(v)
			}
			key, there := c.Key()
			wanted, stands := m.key()
			if got != want || there != stands || !value.Same(key, wanted) || c.Depth() != len(m.at) {
				t.Fatalf("%s of %s: %s: %v, at %v, %v, Depth %d; want %v, %v, %v, %d", order, show(s.All()), did, got, key, there, c.Depth(), want, wanted, stands, len(m.at))
			}
		}
	}
}

// walk tells the triples that a cursor tells by Open and Next.
func walk(c *Cursor, order string) []api.Triple {
	var l []api.Triple
	var u [3]api.Value
	var down func()
	down = func() {
		for ok := c.Open(); ok; ok = c.Next() {
			v, _ := c.Key()
			u[strings.IndexByte("spo", order[c.Depth()-1])] = v
			if c.Depth() == 3 {
				l = append(l, triple(u[0], u[1], u[2]))
			} else {
				down()
			}
		}
		c.Up()
	}
	down()
	return l
}

// TestWalk: P5.5: in any order of parts all triples, each once, in that order.
func TestWalk(t *testing.T) {
	random := rand.New(rand.NewSource(8))
	for _, n := range []int{1, 2, 10, 100, 1000} {
		s := load(t, some(random, n)...)
		for _, order := range orderNames {
			c := cursor(t, s, order)
			got := walk(c, order)
			if c.Depth() != 0 || !sameTriples(sorted(got), s.All()) || len(got) != s.Len() {
				t.Errorf("%s: %d of %d triples", order, len(got), s.Len())
			}
			inOrder := slices.IsSortedFunc(got, func(a, b api.Triple) int {
				for _, letter := range order {
					at := strings.IndexRune("spo", letter)
					if first := value.Order(api.LangS, partsOf(a)[at], partsOf(b)[at]); first != 0 {
						return first
					}
				}
				return 0
			})
			if !inOrder {
				t.Errorf("%s: not in that order: %s", order, show(got))
			}
		}
	}
}

// TestLongLevels: P5.4: what lies below is found wherever it stands in long levels.
func TestLongLevels(t *testing.T) {
	var l []api.Triple
	const n = 3000
	for i := range int64(n) {
		l = append(l, triple(iri("s"), iri("p"), whole(2*i)), triple(iri("s"), iri("q"), whole(0)))
	}
	s := load(t, l...)
	for from := int64(0); from < 2*n; from += 97 {
		for to := from; to < 2*n+3; to += 61 {
			c := cursor(t, s, "ops")
			c.Open()
			c.Seek(whole(from))
			ok := c.Seek(whole(to))
			key, there := c.Key()
			want := max(to, from) + max(to, from)%2
			if ok != (want < 2*n) || there != ok || ok && !value.Same(key, whole(want)) {
				t.Fatalf("from %d Seek(%d): %v, %v", from, to, ok, key)
			}
		}
	}
}

// TestWrittenOver: P5.6, R2: what was handed in, or told, may be written over.
func TestWrittenOver(t *testing.T) {
	l := some(rand.New(rand.NewSource(9)), 300)
	want, kept := sorted(l), slices.Clone(l)
	s, _ := Load(l)
	if !sameTriples(l, kept) {
		t.Error("Load changed what was handed in")
	}
	clear(l)
	all, matched := s.All(), s.Match(api.Pattern{})
	again := s.All()
	clear(all)
	clear(matched)
	if !sameTriples(again, want) || !sameTriples(s.All(), want) || !sameTriples(s.Match(api.Pattern{}), want) {
		t.Error("what was written over is told")
	}
	beyond := append(kept[:10:10], triple(text("no"), text("subject"), api.Value{}))
	if s, err := Load(beyond[:10]); err != api.OK || s.Len() != len(sorted(kept[:10])) {
		t.Errorf("Load of a list's beginning: %d", err)
	}
}

// TestTextsWrittenOver: P5.6, R2: texts whose bytes their owner takes back.
func TestTextsWrittenOver(t *testing.T) {
	b, x := []byte("abc"), []byte("en")
	lent := lit(unsafe.String(&b[0], len(b)), unsafe.String(&x[0], len(x)))
	s := load(t, triple(iri("s"), iri("p"), lent))
	b[0], x[0] = 'z', 'z'
	c := cursor(t, s, "osp")
	c.Open()
	key, _ := c.Key()
	other, _ := c.Key()
	told := []api.Value{key, other, s.All()[0].O, s.Match(api.Pattern{})[0].O, s.All()[0].O}
	for i, v := range told {
		if !value.Same(v, lit("abc", "en")) {
			t.Errorf("answer %d: %v", i, v)
		}
		for _, w := range told[:i] {
			if unsafe.StringData(v.Text) == unsafe.StringData(w.Text) || unsafe.StringData(v.Extra) == unsafe.StringData(w.Extra) {
				t.Errorf("answer %d shares a text with one ahead of it", i)
			}
		}
	}
	sought := []byte("abc")
	c.Seek(lit(unsafe.String(&sought[0], len(sought)), "en"))
	sought[0] = 'x'
	if key, _ := c.Key(); !value.Same(key, lit("abc", "en")) {
		t.Errorf("Key behind Seek: %v", key)
	}
}

// TestLists: R2: a list that is empty, and not nil, is none.
func TestLists(t *testing.T) {
	v := api.Value{Kind: api.KIri, Text: "a", List: []api.Value{}}
	s := load(t, triple(v, v, v), three("a", "a", "a"))
	c := cursor(t, s, "spo")
	c.Open()
	key, _ := c.Key()
	if s.Len() != 1 || !reflect.DeepEqual(s.All()[0], three("a", "a", "a")) || s.Count(pattern(v, v, v)) != 1 || !reflect.DeepEqual(key, iri("a")) || !c.Seek(v) {
		t.Errorf("All: %v, Key %v", s.All(), key)
	}
}

// TestEnds: P5.6, R3: lists that lie in themselves.
func TestEnds(t *testing.T) {
	loop := make([]api.Value, api.MaxParts)
	for i := range loop {
		loop[i] = list(loop...)
		loop[i].List = loop
	}
	s := load(t, every()...)
	for _, v := range []api.Value{list(loop...), {List: loop}, {Kind: api.KIri, Text: "a", List: loop}} {
		if got, err := Load([]api.Triple{triple(v, v, v), triple(iri("a"), iri("p"), v)}); got != nil || err != api.ErrTriple {
			t.Errorf("Load: %v, %d", got, err)
		}
		if n := s.Count(pattern(v, free(""), v)); n != 0 && v.Kind != api.KNull {
			t.Errorf("Count: %d", n)
		}
		c := cursor(t, s, "spo")
		c.Open()
		if !c.Seek(v) {
			t.Error("Seek: false")
		}
	}
}

// TestAlone: P5.6, R2: cursors of one store, and stores, know nothing of one another.
func TestAlone(t *testing.T) {
	s, other := load(t, three("a", "p", "b"), three("b", "p", "c")), load(t, three("z", "z", "z"))
	c, d := cursor(t, s, "spo"), cursor(t, s, "spo")
	c.Open()
	c.Next()
	d.Open()
	first, _ := c.Key()
	second, _ := d.Key()
	d.Open()
	if !value.Same(first, iri("b")) || !value.Same(second, iri("a")) || c.Depth() != 1 || d.Depth() != 2 {
		t.Errorf("cursors at %v and %v", first, second)
	}
	if s.Len() != 2 || other.Len() != 1 || other.Count(api.Pattern{}) != 1 {
		t.Error("stores share their triples")
	}
}

// TestFace: the face is the skeleton's.
func TestFace(t *testing.T) {
	for _, face := range []struct {
		t    reflect.Type
		want []string
	}{
		{reflect.TypeFor[*Store](), []string{"All", "Count", "Cursor", "Len", "Match"}},
		{reflect.TypeFor[*Cursor](), []string{"Depth", "Key", "Next", "Open", "Seek", "Up"}},
	} {
		var got []string
		for i := range face.t.NumMethod() {
			got = append(got, face.t.Method(i).Name)
		}
		if !reflect.DeepEqual(got, face.want) {
			t.Errorf("methods of %v: %v; want %v", face.t, got, face.want)
		}
		for i := range face.t.Elem().NumField() {
			if f := face.t.Elem().Field(i); f.IsExported() {
				t.Errorf("%v shows %s", face.t, f.Name)
			}
		}
	}
}

// TestAskedAtOnce: R6: a store may be asked, and walked, from many goroutines.
func TestAskedAtOnce(t *testing.T) {
	s := load(t, every()...)
	all := s.All()
	var wg sync.WaitGroup
	for i := range 8 {
		wg.Go(func() {
			for range 5 {
				order := orderNames[i%len(orderNames)]
				c, _ := s.Cursor(order)
				if len(walk(c, order)) != len(all) || s.Count(pattern(free("x"), free("x"), free(""))) != 3*len(objects) || !sameTriples(s.Match(api.Pattern{}), all) {
					t.Error("another answer beside other goroutines")
				}
			}
		})
	}
	wg.Wait()
}
