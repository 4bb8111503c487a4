package mapping

import (
	"fmt"
	"math"
	"math/rand"
	"reflect"
	"slices"
	"strings"
	"sync"
	"testing"
	"unsafe"

	"diptych/api"
	"diptych/graph"
	"diptych/triples"
	"diptych/value"
)

func named(s string) api.Value      { return api.Value{Kind: api.KIri, Text: s} }
func blank(s string) api.Value      { return api.Value{Kind: api.KBlank, Text: s} }
func lit(s, x string) api.Value     { return api.Value{Kind: api.KLit, Text: s, Extra: x} }
func text(s string) api.Value       { return api.Value{Kind: api.KText, Text: s} }
func truth(b bool) api.Value        { return api.Value{Kind: api.KBool, Bool: b} }
func whole(n int64) api.Value       { return api.Value{Kind: api.KInt, Int: n} }
func exact(s string) api.Value      { return api.Value{Kind: api.KDec, Text: s} }
func list(l ...api.Value) api.Value { return api.Value{Kind: api.KList, List: l} }
func theNode(id int64) api.Value    { return api.Value{Kind: api.KNode, Int: id} }
func theEdge(id int64) api.Value    { return api.Value{Kind: api.KEdge, Int: id} }

func triple(s, p, o api.Value) api.Triple { return api.Triple{S: s, P: p, O: o} }
func three(s, p, o string) api.Triple     { return triple(named(s), named(p), named(o)) }

func pair(key string, v api.Value) api.Pair { return api.Pair{Key: key, V: v} }
func node(id int64, label string, props ...api.Pair) api.Node {
	return api.Node{ID: id, Labels: []string{label}, Props: props}
}
func edge(id, from, to int64, kind string) api.Edge {
	return api.Edge{ID: id, From: from, To: to, Type: kind}
}

var longest = strings.Repeat("x", api.MaxText)

// subjects, predicates and objects stand in the order of S's values.
var (
	subjects   = []api.Value{blank("A"), blank("a"), named("a"), named("b"), named("p")}
	predicates = []api.Value{named("a"), named("b"), named("p"), named("q")}
	objects    = []api.Value{
		blank("A"), blank("a"), blank("b"), named("a"), named("b"), named("p"), named("é"), lit("", "en"), lit("a", "en"), lit("a", "xsd"), lit("b", "de"),
		text(""), text("\x00"), text("a"), text("ab"), text("b"), truth(false), truth(true),
		whole(math.MinInt64), exact("-1.5"), whole(0), exact("0.0"), exact("0.5"), whole(3), exact("3.0"), whole(10), whole(math.MaxInt64),
	}
)

func every() []api.Triple {
	var l []api.Triple
	for _, s := range subjects {
		for _, p := range predicates {
			for _, o := range objects {
				l = append(l, triple(s, p, o))
			}
		}
	}
	return l
}

// bags are lists of triples in any order, some of them again and again: the same in every run.
func bags() [][]api.Triple {
	all, random := every(), rand.New(rand.NewSource(7))
	l := [][]api.Triple{nil, {}, all, {three("a", "p", "a")}, {three("a", "p", "b"), three("a", "p", "b")}}
	for range 60 {
		var some []api.Triple
		for range random.Intn(120) {
			some = append(some, all[random.Intn(len(all))])
		}
		l = append(l, some)
	}
	return l
}

func sameTriple(a, b api.Triple) bool {
	return value.Same(a.S, b.S) && value.Same(a.P, b.P) && value.Same(a.O, b.O)
}

// sorted tells l in the order of triples, each once.
func sorted(l []api.Triple) []api.Triple {
	l = slices.Clone(l)
	slices.SortFunc(l, func(a, b api.Triple) int {
		for _, first := range []int{value.Order(api.LangS, a.S, b.S), value.Order(api.LangS, a.P, b.P), value.Order(api.LangS, a.O, b.O)} {
			if first != 0 {
				return first
			}
		}
		return 0
	})
	return slices.CompactFunc(l, sameTriple)
}

// cloned tells v in memory of its own, lists and all, and without empty ones.
func cloned[T any](v T) T {
	return deepCopy(reflect.ValueOf(v)).Interface().(T)
}

func deepCopy(v reflect.Value) reflect.Value {
	c := reflect.New(v.Type()).Elem()
	switch v.Kind() {
	case reflect.Struct:
		for i := range v.NumField() {
			c.Field(i).Set(deepCopy(v.Field(i)))
		}
	case reflect.Slice:
		for i := range v.Len() {
			c.Set(reflect.Append(c, deepCopy(v.Index(i))))
		}
	case reflect.String:
		c.SetString(strings.Clone(v.String()))
	default:
		c.Set(v)
	}
	return c
}

// short tells the beginning of v as it is shown.
func short(v any) string {
	s := fmt.Sprintf("%.40v", v)
	return s[:min(len(s), 500)]
}

// expected tells the graph of l by the words of P7.1: a number is how many stand ahead.
func expected(l []api.Triple) api.Graph {
	l = sorted(l)
	var ends []api.Value
	for _, t := range l {
		for _, v := range []api.Value{t.S, t.O} {
			if !slices.ContainsFunc(ends, func(u api.Value) bool { return value.Same(u, v) }) {
				ends = append(ends, v)
			}
		}
	}
	number := func(v api.Value) (n int64) {
		for _, u := range ends {
			if value.Order(api.LangS, u, v) < 0 {
				n++
			}
		}
		return n
	}
	g := api.Graph{Nodes: make([]api.Node, len(ends))}
	for _, v := range ends {
		n := node(number(v), "Val", pair("v", v))
		switch v.Kind {
		case api.KIri:
			n = node(n.ID, "Iri", pair("v", text(v.Text)))
		case api.KBlank:
			n = node(n.ID, "Blank", pair("v", text(v.Text)))
		case api.KLit:
			n = node(n.ID, "Lit", pair("v", text(v.Text)), pair("x", text(v.Extra)))
		}
		g.Nodes[n.ID] = n
	}
	for i, t := range l {
		g.Edges = append(g.Edges, edge(int64(i), number(t.S), number(t.O), t.P.Text))
	}
	return cloned(g)
}

func graphOf(t *testing.T, l ...api.Triple) api.Graph {
	t.Helper()
	g, err := Graph(l)
	if err != api.OK {
		t.Fatalf("Graph of %d triples: error %d", len(l), err)
	}
	return g
}

// sample has nodes of all labels: 0 Blank, 1 and 2 Iri, 3 Lit, 4 to 7 Val.
func sample() []api.Triple {
	return []api.Triple{
		triple(named("b"), named("q"), exact("5.0")), triple(named("a"), named("p"), whole(5)), triple(blank("b"), named("p"), named("a")),
		triple(named("a"), named("p"), lit("l", "en")), triple(named("a"), named("p"), text("t")), triple(named("a"), named("o"), truth(true)), triple(named("b"), named("q"), blank("b")),
	}
}

// TestGraph: P7.1: told by hand.
func TestGraph(t *testing.T) {
	got := graphOf(t, sample()...)
	want := api.Graph{
		Nodes: []api.Node{
			node(0, "Blank", pair("v", text("b"))), node(1, "Iri", pair("v", text("a"))), node(2, "Iri", pair("v", text("b"))), node(3, "Lit", pair("v", text("l")), pair("x", text("en"))),
			node(4, "Val", pair("v", text("t"))), node(5, "Val", pair("v", truth(true))), node(6, "Val", pair("v", whole(5))), node(7, "Val", pair("v", exact("5.0"))),
		},
		Edges: []api.Edge{edge(0, 0, 1, "p"), edge(1, 1, 5, "o"), edge(2, 1, 3, "p"), edge(3, 1, 4, "p"), edge(4, 1, 6, "p"), edge(5, 2, 0, "q"), edge(6, 2, 7, "q")},
	}
	if !reflect.DeepEqual(got, want) {
		t.Errorf("Graph: %v; want %v", got, want)
	}
}

// TestFirstExample: P7.1: the document's.
func TestFirstExample(t *testing.T) {
	got := graphOf(t, triple(named("a"), named("p"), whole(5)))
	want := api.Graph{Nodes: []api.Node{node(0, "Iri", pair("v", text("a"))), node(1, "Val", pair("v", whole(5)))}, Edges: []api.Edge{edge(0, 0, 1, "p")}}
	if !reflect.DeepEqual(got, want) {
		t.Errorf("Graph: %v; want %v", got, want)
	}
}

// TestGraphOfAny: P7.1: by its words, of lists of any kind and order.
func TestGraphOfAny(t *testing.T) {
	for _, l := range bags() {
		if got, want := graphOf(t, l...), expected(l); !reflect.DeepEqual(got, want) {
			t.Fatalf("Graph of %s: %s; want %s", short(l), short(got), short(want))
		}
	}
}

// TestGraphEdges: P7.1: what is no end is no node; an end that is a subject and an object is one; what is equal and not the same is two.
func TestGraphEdges(t *testing.T) {
	for what, c := range map[string]struct {
		l            []api.Triple
		nodes, edges int
	}{
		"nothing":                     {nil, 0, 0},
		"a predicate of its own":      {[]api.Triple{three("a", "p", "b")}, 2, 1},
		"one value in three parts":    {[]api.Triple{three("a", "a", "a")}, 1, 1},
		"a predicate that is an end":  {[]api.Triple{three("a", "p", "b"), three("p", "p", "b")}, 3, 2},
		"one triple again and again":  {[]api.Triple{three("a", "p", "b"), three("a", "p", "b"), three("a", "p", "b")}, 2, 1},
		"there and back":              {[]api.Triple{three("a", "p", "b"), three("b", "p", "a")}, 2, 2},
		"two predicates":              {[]api.Triple{three("a", "p", "b"), three("a", "q", "b")}, 2, 2},
		"equal and not the same":      {[]api.Triple{triple(named("a"), named("p"), whole(3)), triple(named("a"), named("p"), exact("3.0"))}, 3, 2},
		"one text in all kinds":       {[]api.Triple{triple(named("a"), named("p"), blank("a")), triple(named("a"), named("p"), lit("a", "a")), triple(named("a"), named("p"), text("a"))}, 4, 3},
		"literals that differ in one": {[]api.Triple{triple(named("a"), named("p"), lit("a", "en")), triple(named("a"), named("p"), lit("a", "de")), triple(named("a"), named("p"), lit("", "en"))}, 4, 3},
		"the longest texts":           {[]api.Triple{triple(named(longest), named(longest), lit(longest, longest)), triple(named("a"), named("p"), text(longest))}, 4, 2},
	} {
		g := graphOf(t, c.l...)
		if len(g.Nodes) != c.nodes || len(g.Edges) != c.edges || !reflect.DeepEqual(g, expected(c.l)) {
			t.Errorf("%s: %s", what, short(g))
		}
	}
}

// TestGraphRefuses: P7.1: one triple that may not be is enough, wherever it stands; too many are too many.
func TestGraphRefuses(t *testing.T) {
	good := every()
	refused := func(what string, l []api.Triple) {
		t.Helper()
		if g, err := Graph(l); err != api.ErrTriple || g.Nodes != nil || g.Edges != nil {
			t.Errorf("Graph of %s: %s, %d; want ErrTriple", what, short(g), err)
		}
	}
	for _, u := range []api.Triple{
		{}, triple(text("s"), named("p"), named("o")), triple(lit("s", "en"), named("p"), named("o")), triple(whole(1), named("p"), named("o")), triple(theNode(0), named("p"), named("o")),
		triple(named("s"), blank("p"), named("o")), triple(named("s"), text("p"), named("o")), triple(named("s"), api.Value{}, named("o")),
		triple(named("s"), named("p"), api.Value{}), triple(named("s"), named("p"), list()), triple(named("s"), named("p"), theNode(0)), triple(named("s"), named("p"), theEdge(0)),
		triple(named(""), named("p"), named("o")), triple(named("s"), named("a b"), named("o")), triple(named("s"), named("p"), named("<o>")), triple(blank("1"), named("p"), named("o")),
		triple(named("s"), named("p"), exact("3")), triple(named("s"), named("p"), lit("a", "")), triple(named("s"), named("p"), text(longest+"x")), triple(named("s"), named("p"), api.Value{Kind: api.KInt, Text: "1"}),
		triple(api.Value{Kind: -1}, named("p"), named("o")), triple(named("s"), named("p"), api.Value{Kind: api.KLit + 1}),
	} {
		for _, at := range []int{0, 7, len(good)} {
			refused(short(u), slices.Insert(slices.Clone(good), at, u))
		}
		refused(short(u), []api.Triple{u})
	}
	many := make([]api.Triple, api.MaxData+1)
	for i := range many {
		many[i] = three("a", "p", "b")
	}
	refused("too many triples", many)
	if g := graphOf(t, many[1:]...); len(g.Edges) != 1 {
		t.Errorf("one triple %d times: %d edges", api.MaxData, len(g.Edges))
	}
}

// TestMost: P7.1, P7.2: as many triples as there may be, with as many nodes.
func TestMost(t *testing.T) {
	var l []api.Triple
	for i := range api.MaxData {
		o := whole(int64(i))
		if i%2 == 1 {
			o = exact(fmt.Sprint(i, ".5"))
		}
		l = append(l, triple(named(fmt.Sprint("s", i)), named(fmt.Sprint("p", i%5)), o))
	}
	g := graphOf(t, l...)
	if len(g.Nodes) != 2*api.MaxData || len(g.Edges) != api.MaxData {
		t.Fatalf("%d nodes, %d edges", len(g.Nodes), len(g.Edges))
	}
	if got, err := Triples(g); err != api.OK || !slices.EqualFunc(got, sorted(l), sameTriple) {
		t.Errorf("Triples: %d of them, error %d", len(got), err)
	}
	if v, ok := Back(g, theNode(2*api.MaxData-1)); !ok || !value.Same(v, exact("65535.5")) {
		t.Errorf("Back of the last node: %v", v)
	}
}

// shuffled tells g with all that has no order of its own in another one.
func shuffled(random *rand.Rand, g api.Graph) api.Graph {
	g = cloned(g)
	mix := func(l any) { random.Shuffle(reflect.ValueOf(l).Len(), reflect.Swapper(l)) }
	mix(g.Nodes)
	mix(g.Edges)
	for _, n := range g.Nodes {
		mix(n.Labels)
		mix(n.Props)
	}
	return g
}

// TestThereAndBack: P7.2, P7.4: Triples of Graph are the triples; what Graph tells may be, and is plain.
func TestThereAndBack(t *testing.T) {
	random := rand.New(rand.NewSource(2))
	for _, l := range bags() {
		g, want := graphOf(t, l...), sorted(l)
		s, err := graph.Load(g)
		if err != api.OK || !reflect.DeepEqual(s.Plain(), g) {
			t.Fatalf("what Graph tells of %s may not be, or isn't plain: error %d", short(l), err)
		}
		for _, h := range []api.Graph{g, shuffled(random, g), shuffled(random, g)} {
			got, err := Triples(h)
			if err != api.OK || !slices.EqualFunc(got, want, sameTriple) {
				t.Fatalf("Triples of the graph of %s: %s, %d", short(l), short(got), err)
			}
			if again := graphOf(t, got...); !reflect.DeepEqual(again, g) {
				t.Fatalf("Graph of Triples of the graph of %s: %s", short(l), short(again))
			}
		}
	}
}

// sampleWith is the sample's graph in which one thing is another.
func sampleWith(change func(g *api.Graph)) api.Graph {
	g := expected(sample())
	change(&g)
	return g
}

// TestNoImage: P7.2: graphs that may be, and are no triples' graph.
func TestNoImage(t *testing.T) {
	for what, change := range map[string]func(g *api.Graph){
		"a node without edges":           func(g *api.Graph) { g.Nodes = append(g.Nodes, node(8, "Val", pair("v", exact("6.5")))) },
		"a first node without edges":     func(g *api.Graph) { *g = api.Graph{Nodes: []api.Node{node(0, "Iri", pair("v", text("a")))}} },
		"no edges":                       func(g *api.Graph) { g.Edges = nil },
		"an edge fewer":                  func(g *api.Graph) { g.Edges = g.Edges[:6] },
		"a node without a label":         func(g *api.Graph) { g.Nodes[1].Labels = nil },
		"a node with two labels":         func(g *api.Graph) { g.Nodes[1].Labels = []string{"Iri", "Val"} },
		"a node with a label more":       func(g *api.Graph) { g.Nodes[1].Labels = []string{"Iri", "a"} },
		"another label":                  func(g *api.Graph) { g.Nodes[1].Labels[0] = "Other" },
		"a label in small letters":       func(g *api.Graph) { g.Nodes[1].Labels[0] = "iri" },
		"a blank that is an IRI":         func(g *api.Graph) { g.Nodes[0].Labels[0] = "Iri" },
		"an IRI that is a text":          func(g *api.Graph) { g.Nodes[1].Labels[0] = "Val" },
		"an IRI that is a literal":       func(g *api.Graph) { g.Nodes[2].Labels[0] = "Lit" },
		"a literal that is a text":       func(g *api.Graph) { g.Nodes[3].Labels[0] = "Val" },
		"a literal that is an IRI":       func(g *api.Graph) { g.Nodes[3].Labels[0] = "Iri" },
		"a text that is an IRI":          func(g *api.Graph) { g.Nodes[4].Labels[0] = "Iri" },
		"a node without properties":      func(g *api.Graph) { g.Nodes[1].Props = nil },
		"a value without properties":     func(g *api.Graph) { g.Nodes[6].Props = nil },
		"a property more":                func(g *api.Graph) { g.Nodes[1].Props = append(g.Nodes[1].Props, pair("w", text("w"))) },
		"an IRI with an extra":           func(g *api.Graph) { g.Nodes[1].Props = append(g.Nodes[1].Props, pair("x", text("en"))) },
		"a value with an extra":          func(g *api.Graph) { g.Nodes[6].Props = append(g.Nodes[6].Props, pair("x", text("en"))) },
		"another key":                    func(g *api.Graph) { g.Nodes[1].Props[0].Key = "V" },
		"a literal without its extra":    func(g *api.Graph) { g.Nodes[3].Props = g.Nodes[3].Props[:1] },
		"a literal without its text":     func(g *api.Graph) { g.Nodes[3].Props = g.Nodes[3].Props[1:] },
		"an IRI that is a number":        func(g *api.Graph) { g.Nodes[1].Props[0].V = whole(1) },
		"an IRI that is a list":          func(g *api.Graph) { g.Nodes[1].Props[0].V = list(text("a")) },
		"an IRI that is a decimal":       func(g *api.Graph) { g.Nodes[1].Props[0].V = exact("1.5") },
		"a literal that is a decimal":    func(g *api.Graph) { g.Nodes[3].Props[0].V = exact("1.5") },
		"a literal of a number":          func(g *api.Graph) { g.Nodes[3].Props[1].V = exact("1.5") },
		"a value that is a list":         func(g *api.Graph) { g.Nodes[7].Props[0].V = list(whole(5)) },
		"a value that is an empty list":  func(g *api.Graph) { g.Nodes[7].Props[0].V = list() },
		"an IRI that may not be":         func(g *api.Graph) { g.Nodes[1].Props[0].V = text("a b") },
		"an IRI without a text":          func(g *api.Graph) { g.Nodes[1].Props[0].V = text("") },
		"a blank that may not be":        func(g *api.Graph) { g.Nodes[0].Props[0].V = text("b-b") },
		"a literal that may not be":      func(g *api.Graph) { g.Nodes[3].Props[1].V = text("e n") },
		"a literal without a language":   func(g *api.Graph) { g.Nodes[3].Props[1].V = text("") },
		"a type that is no IRI":          func(g *api.Graph) { g.Edges[0].Type = "p q" },
		"a type with a bracket":          func(g *api.Graph) { g.Edges[6].Type = "<q>" },
		"an edge with a property":        func(g *api.Graph) { g.Edges[3].Props = []api.Pair{pair("v", text("p"))} },
		"an edge from a literal":         func(g *api.Graph) { g.Edges[3].From = 3 },
		"an edge from a number":          func(g *api.Graph) { g.Edges[6].From = 6 },
		"an edge twice":                  func(g *api.Graph) { g.Edges = append(g.Edges, edge(7, 2, 7, "q")) },
		"two nodes alike":                func(g *api.Graph) { g.Nodes[2].Props[0].V = text("a") },
		"nodes out of order":             func(g *api.Graph) { g.Nodes[1].Props, g.Nodes[2].Props = g.Nodes[2].Props, g.Nodes[1].Props },
		"equal numbers out of order":     func(g *api.Graph) { g.Nodes[6].Props, g.Nodes[7].Props = g.Nodes[7].Props, g.Nodes[6].Props },
		"nodes from 1 on":                func(g *api.Graph) { shift(g, 1, 0) },
		"nodes far away":                 func(g *api.Graph) { shift(g, math.MaxInt64-7, 0) },
		"edges from 1 on":                func(g *api.Graph) { shift(g, 0, 1) },
		"nodes with a gap":               func(g *api.Graph) { g.Nodes[7].ID, g.Edges[6].To = 8, 8 },
		"edges with a gap":               func(g *api.Graph) { g.Edges[6].ID = 7 },
		"edges out of order":             func(g *api.Graph) { g.Edges[0].ID, g.Edges[1].ID = 1, 0 },
		"edges out of order, by type":    func(g *api.Graph) { g.Edges[1].Type = "q" },
		"edges out of order, by objects": func(g *api.Graph) { g.Edges[2].To, g.Edges[3].To = 4, 3 },
	} {
		g := sampleWith(change)
		if _, err := graph.Load(g); err != api.OK {
			t.Errorf("%s: the graph may not be", what)
		}
		for _, h := range []api.Graph{g, shuffled(rand.New(rand.NewSource(1)), g)} {
			if l, err := Triples(h); err != api.ErrImage || l != nil {
				t.Errorf("Triples of %s: %s, %d; want ErrImage", what, short(l), err)
			}
		}
	}
}

func shift(g *api.Graph, nodes, edges int64) {
	for i := range g.Nodes {
		g.Nodes[i].ID += nodes
	}
	for i := range g.Edges {
		g.Edges[i].ID += edges
		g.Edges[i].From += nodes
		g.Edges[i].To += nodes
	}
}

// TestOtherImages: P7.2: what is changed and is a graph of triples still, of others.
func TestOtherImages(t *testing.T) {
	for what, change := range map[string]func(g *api.Graph){
		"another IRI":          func(g *api.Graph) { g.Nodes[2].Props[0].V = text("c") },
		"another literal":      func(g *api.Graph) { g.Nodes[3].Props[0].V = text("") },
		"another language":     func(g *api.Graph) { g.Nodes[3].Props[1].V = text("de") },
		"a greater number":     func(g *api.Graph) { g.Nodes[7].Props[0].V = whole(6) },
		"an edge elsewhere":    func(g *api.Graph) { g.Edges[6].To = 6; g.Edges[4].To = 7 },
		"types of all kinds":   func(g *api.Graph) { g.Edges[0].Type = "(é)-[p]" },
		"a text for a decimal": func(g *api.Graph) { g.Nodes[4].Props[0].V = text("0.5") },
	} {
		g := sampleWith(change)
		l, err := Triples(g)
		if err != api.OK || !reflect.DeepEqual(graphOf(t, l...), g) {
			t.Errorf("Triples of %s: %s, %d", what, short(l), err)
		}
	}
}

// TestFewImages: P7.2: of all changes to all graphs of some eight triples just those are images that are among these graphs.
func TestFewImages(t *testing.T) {
	ends := []api.Value{blank("a"), named("a"), text("a"), whole(5)}
	var eight []api.Triple
	for _, s := range ends[:2] {
		for _, o := range ends {
			eight = append(eight, triple(s, named("p"), o))
		}
	}
	images := map[string][]api.Triple{}
	var all []api.Graph
	for chosen := range 1 << len(eight) {
		var l []api.Triple
		for i, u := range eight {
			if chosen>>i&1 == 1 {
				l = append(l, u)
			}
		}
		g := graphOf(t, l...)
		images[fmt.Sprint(g)], all = sorted(l), append(all, g)
	}
	asked, found := 0, 0
	for _, g := range all {
		for _, h := range changesOf(g) {
			s, err := graph.Load(h)
			if err != api.OK {
				continue
			}
			asked++
			want, is := images[fmt.Sprint(s.Plain())]
			got, err := Triples(h)
			switch {
			case is && (err != api.OK || !slices.EqualFunc(got, want, sameTriple)):
				t.Fatalf("Triples of %v: %v, %d; want %v", h, got, err, want)
			case !is && (err != api.ErrImage || got != nil):
				t.Fatalf("Triples of %v: %v, %d; want ErrImage", h, got, err)
			case is:
				found++
			}
		}
	}
	if len(all) != 256 || found < 256 || asked-found < 256 {
		t.Errorf("%d graphs, %d changed ones, %d images among them", len(all), asked, found)
	}
}

// changesOf tells graphs that differ from g in one thing or two, of the values of which g is made.
func changesOf(g api.Graph) []api.Graph {
	var l []api.Graph
	add := func(change func(h *api.Graph)) {
		h := cloned(g)
		change(&h)
		l = append(l, h)
	}
	add(func(h *api.Graph) {})
	for i := range g.Nodes {
		add(func(h *api.Graph) { h.Nodes = slices.Delete(h.Nodes, i, i+1) })
		for j := range i {
			add(func(h *api.Graph) { h.Nodes[i].ID, h.Nodes[j].ID = h.Nodes[j].ID, h.Nodes[i].ID })
			add(func(h *api.Graph) { h.Nodes[i].Props, h.Nodes[j].Props = h.Nodes[j].Props, h.Nodes[i].Props })
			add(func(h *api.Graph) { h.Nodes[i], h.Nodes[j] = h.Nodes[j], h.Nodes[i] })
		}
		for _, label := range []string{"Iri", "Blank", "Val"} {
			add(func(h *api.Graph) { h.Nodes[i].Labels[0] = label })
		}
	}
	for i := range g.Edges {
		add(func(h *api.Graph) { h.Edges = slices.Delete(h.Edges, i, i+1) })
		add(func(h *api.Graph) { h.Edges = h.Edges[:i] })
		for id := range int64(7) {
			add(func(h *api.Graph) { h.Edges[i].ID = id })
			add(func(h *api.Graph) { h.Edges[i].From = id })
			add(func(h *api.Graph) { h.Edges[i].To = id })
		}
		for j := range i {
			add(func(h *api.Graph) { h.Edges[i], h.Edges[j] = h.Edges[j], h.Edges[i] })
			add(func(h *api.Graph) { h.Edges[i].To, h.Edges[j].To = h.Edges[j].To, h.Edges[i].To })
			add(func(h *api.Graph) { h.Edges[i].From, h.Edges[j].From = h.Edges[j].From, h.Edges[i].From })
		}
	}
	return l
}

// TestTriplesRefuses: P7.2: a graph that may not be is one, whether it would be an image or not.
func TestTriplesRefuses(t *testing.T) {
	for what, g := range barred() {
		if l, err := Triples(g); err != api.ErrGraph || l != nil {
			t.Errorf("Triples of %s: %s, %d; want ErrGraph", what, short(l), err)
		}
	}
}

// barred are graphs that may not be.
func barred() map[string]api.Graph {
	l := map[string]api.Graph{}
	for what, change := range map[string]func(g *api.Graph){
		"a node below 0":           func(g *api.Graph) { g.Nodes[7].ID, g.Edges[6].To = -1, -1 },
		"a node twice":             func(g *api.Graph) { g.Nodes = append(g.Nodes, g.Nodes[0]) },
		"two nodes of one number":  func(g *api.Graph) { g.Nodes[7].ID = 6 },
		"an edge below 0":          func(g *api.Graph) { g.Edges[0].ID = -1 },
		"an edge of one number":    func(g *api.Graph) { g.Edges[1] = g.Edges[0] },
		"an edge to nowhere":       func(g *api.Graph) { g.Edges[0].To = 8 },
		"an edge from below 0":     func(g *api.Graph) { g.Edges[0].From = -1 },
		"edges without nodes":      func(g *api.Graph) { g.Nodes = nil },
		"a label twice":            func(g *api.Graph) { g.Nodes[1].Labels = []string{"Iri", "Iri"} },
		"an empty label":           func(g *api.Graph) { g.Nodes[1].Labels[0] = "" },
		"an empty type":            func(g *api.Graph) { g.Edges[0].Type = "" },
		"a type too long":          func(g *api.Graph) { g.Edges[0].Type = longest + "x" },
		"a key twice":              func(g *api.Graph) { g.Nodes[1].Props = append(g.Nodes[1].Props, g.Nodes[1].Props[0]) },
		"an empty key":             func(g *api.Graph) { g.Nodes[1].Props[0].Key = "" },
		"a property that is none":  func(g *api.Graph) { g.Nodes[6].Props[0].V = api.Value{} },
		"a property that's an IRI": func(g *api.Graph) { g.Nodes[1].Props[0].V = named("a") },
		"a property that's a node": func(g *api.Graph) { g.Nodes[6].Props[0].V = theNode(1) },
		"a list in a list":         func(g *api.Graph) { g.Nodes[6].Props[0].V = list(list()) },
		"a decimal that is none":   func(g *api.Graph) { g.Nodes[7].Props[0].V = exact("5") },
		"an edge's bad property":   func(g *api.Graph) { g.Edges[0].Props = []api.Pair{pair("", whole(1))} },
	} {
		l[what] = sampleWith(change)
	}
	many := api.Graph{Nodes: []api.Node{node(0, "Iri", pair("v", text("a")))}}
	for i := range int64(api.MaxData + 1) {
		many.Edges = append(many.Edges, edge(i, 0, 0, fmt.Sprint("p", i)))
	}
	l["too many edges"] = many
	return l
}

// TestSecondExample: P7.2: the document's.
func TestSecondExample(t *testing.T) {
	for _, g := range []api.Graph{
		{Nodes: []api.Node{node(0, "Iri", pair("v", text("a")))}}, {Nodes: []api.Node{{}}},
		{Nodes: []api.Node{node(0, "Iri", pair("v", text("a"))), node(1, "Iri", pair("v", text("b")))}, Edges: []api.Edge{edge(0, 0, 0, "p")}},
	} {
		if l, err := Triples(g); err != api.ErrImage || l != nil {
			t.Errorf("Triples of %v: %v, %d; want ErrImage", g, l, err)
		}
	}
}

// TestBackOfNodes: P7.3: of each node of a graph that Graph told the value that it stands for.
func TestBackOfNodes(t *testing.T) {
	random := rand.New(rand.NewSource(4))
	for _, l := range bags() {
		g := graphOf(t, l...)
		ends := map[int64]api.Value{}
		for i, u := range sorted(l) {
			ends[g.Edges[i].From], ends[g.Edges[i].To] = u.S, u.O
		}
		if len(ends) != len(g.Nodes) {
			t.Fatalf("%d ends, %d nodes", len(ends), len(g.Nodes))
		}
		for _, h := range []api.Graph{g, shuffled(random, g)} {
			for id, want := range ends {
				if v, ok := Back(h, theNode(id)); !ok || !value.Same(v, want) {
					t.Fatalf("Back of node %d: %v, %v; want %v", id, v, ok, want)
				}
			}
			notBack(t, h, theNode(int64(len(g.Nodes))))
		}
	}
}

func notBack(t *testing.T, g api.Graph, v api.Value) {
	t.Helper()
	if got, ok := Back(g, v); ok || !value.Same(got, api.Value{}) {
		t.Errorf("Back of %s: %s, %v; want none and false", short(v), short(got), ok)
	}
}

// TestBackOfOthers: P7.3: of what is no node and no edge itself; false of nodes that there are not, and of edges.
func TestBackOfOthers(t *testing.T) {
	g := graphOf(t, sample()...)
	others := append([]api.Value{
		{}, list(), list(whole(1), list(text("a"), api.Value{}), theNode(1), theEdge(1)), text(longest), {Kind: -1, Text: "a"}, {Kind: api.KLit + 1, Int: 5}, {Kind: math.MaxInt}, named("a b"), exact("x"),
		{Kind: api.KInt, Int: 5, Bool: true, Text: "a", Extra: "b", List: []api.Value{whole(1)}}, {Text: "x"},
	}, objects...)
	for _, h := range []api.Graph{g, {}, {Nodes: []api.Node{{ID: 3, Labels: []string{"A"}}}}} {
		for _, want := range others {
			if v, ok := Back(h, want); !ok || !reflect.DeepEqual(v, cloned(want)) {
				t.Errorf("Back of %s: %s, %v; want itself", short(want), short(v), ok)
			}
		}
		for _, id := range []int64{0, 1, 6, 7, 8, -1, math.MaxInt64, math.MinInt64} {
			notBack(t, h, theEdge(id))
		}
		for _, id := range []int64{8, 9, -1, math.MaxInt64, math.MinInt64} {
			notBack(t, h, theNode(id))
		}
	}
	notBack(t, api.Graph{}, theNode(0))
}

// TestBackOfNothing: P7.3: nodes that are not as Graph makes one stand for nothing; the others of their graph are not touched by that.
func TestBackOfNothing(t *testing.T) {
	for what, n := range map[string]api.Node{
		"a node without a label":        {Props: []api.Pair{pair("v", text("a"))}},
		"a node with two labels":        {Labels: []string{"Iri", "Lit"}, Props: []api.Pair{pair("v", text("a")), pair("x", text("en"))}},
		"a node with another label":     node(0, "Node", pair("v", text("a"))),
		"an IRI with nothing":           node(0, "Iri"),
		"a blank with nothing":          node(0, "Blank"),
		"a literal with nothing":        node(0, "Lit"),
		"a value with nothing":          node(0, "Val"),
		"an IRI with more":              node(0, "Iri", pair("v", text("a")), pair("w", text("a"))),
		"an IRI with a language":        node(0, "Iri", pair("v", text("a")), pair("x", text("en"))),
		"a value with more":             node(0, "Val", pair("a", text("a")), pair("v", text("a"))),
		"a literal without a language":  node(0, "Lit", pair("v", text("a"))),
		"a literal without a text":      node(0, "Lit", pair("x", text("en"))),
		"a literal with an empty one":   node(0, "Lit", pair("v", text("a")), pair("x", text(""))),
		"a literal with more":           node(0, "Lit", pair("v", text("a")), pair("x", text("en")), pair("y", text("en"))),
		"a literal of a number":         node(0, "Lit", pair("v", whole(1)), pair("x", text("en"))),
		"an IRI of a truth":             node(0, "Iri", pair("v", truth(true))),
		"an IRI of a decimal":           node(0, "Iri", pair("v", exact("0.5"))),
		"an IRI with a space":           node(0, "Iri", pair("v", text("a b"))),
		"an empty IRI":                  node(0, "Iri", pair("v", text(""))),
		"a blank that begins so":        node(0, "Blank", pair("v", text("1"))),
		"a blank that is too long":      node(0, "Blank", pair("v", text(strings.Repeat("a", 65)))),
		"a value that is a list":        node(0, "Val", pair("v", list(whole(1)))),
		"a value that is an empty list": node(0, "Val", pair("v", list())),
	} {
		g := api.Graph{Nodes: []api.Node{n, node(1, "Blank", pair("v", text(strings.Repeat("a", 64))))}}
		if v, ok := Back(g, theNode(0)); ok || !value.Same(v, api.Value{}) {
			t.Errorf("Back of %s: %v, %v; want none and false", what, v, ok)
		}
		if v, ok := Back(g, theNode(1)); !ok || !value.Same(v, blank(strings.Repeat("a", 64))) {
			t.Errorf("Back beside %s: %v, %v", what, v, ok)
		}
	}
}

// TestBackOfBarred: P7.3: false of whatever value where the graph may not be.
func TestBackOfBarred(t *testing.T) {
	for what, g := range barred() {
		for _, v := range []api.Value{theNode(0), theNode(1), theNode(-1), theEdge(0), whole(5), named("a"), {}, list(whole(1))} {
			if got, ok := Back(g, v); ok || !value.Same(got, api.Value{}) {
				t.Errorf("Back of %v, with %s: %v, %v; want none and false", v, what, got, ok)
			}
		}
	}
}

// TestHandedInIsLeft: P7.5, R2: what is handed in stays as it is, and what lies behind a list's length is not asked.
func TestHandedInIsLeft(t *testing.T) {
	behind := append(sample(), triple(text("no"), named("a b"), list()), api.Triple{})
	l := behind[:7]
	asked := cloned(behind)
	g := graphOf(t, l...)
	if !reflect.DeepEqual(behind, asked) || !reflect.DeepEqual(g, expected(sample())) {
		t.Error("Graph changed its list, or read behind it")
	}
	mixed := shuffled(rand.New(rand.NewSource(3)), g)
	mixed.Nodes = append(mixed.Nodes, api.Node{ID: -1}, mixed.Nodes[0])[:len(g.Nodes)]
	mixed.Edges = append(mixed.Edges, api.Edge{}, mixed.Edges[0])[:len(g.Edges)]
	for i, n := range mixed.Nodes {
		mixed.Nodes[i].Labels = append(n.Labels, "", "Iri")[:1]
		mixed.Nodes[i].Props = append(n.Props, pair("", theNode(1)), pair("v", api.Value{}))[:len(n.Props)]
	}
	seenWhole := func() []any {
		seen := []any{cloned(mixed.Nodes[:len(g.Nodes)+2]), cloned(mixed.Edges[:len(g.Edges)+2])}
		for _, n := range mixed.Nodes {
			seen = append(seen, slices.Clone(n.Labels[:3]), cloned(n.Props[:len(n.Props)+2]))
		}
		return seen
	}
	before := seenWhole()
	got, err := Triples(mixed)
	v, ok := Back(mixed, theNode(3))
	if err != api.OK || !slices.EqualFunc(got, sorted(l), sameTriple) || !ok || !value.Same(v, lit("l", "en")) {
		t.Errorf("Triples: %s, %d; Back: %v, %v", short(got), err, v, ok)
	}
	if !reflect.DeepEqual(seenWhole(), before) {
		t.Error("a graph that was handed in is changed")
	}
	of := list([]api.Value{text("a"), text("b"), {Kind: -1}}[:2]...)
	if v, ok := Back(g, of); !ok || len(v.List) != 2 || of.List[:3][2].Kind != -1 || cap(v.List) > 2 && v.List[:3][2].Kind == -1 {
		t.Errorf("Back of a list: %v, %v", v, ok)
	}
}

// TestToldIsNew: P7.5, R2: what is told is the caller's own, list by list.
func TestToldIsNew(t *testing.T) {
	l := sample()
	g := graphOf(t, l...)
	want := cloned(g)
	for i, n := range g.Nodes {
		_, _ = append(n.Labels, "spoilt"), append(n.Props, pair("spoilt", whole(0)))
		n.Labels[0], n.Props[0] = "spoilt", pair("spoilt", whole(int64(i)))
		if rest := g.Nodes[i+1:]; !reflect.DeepEqual(cloned(rest), cloned(want.Nodes[i+1:])) {
			t.Fatalf("node %d shares its lists with one behind it", i)
		}
	}
	clear(g.Nodes)
	clear(g.Edges)
	if again := graphOf(t, l...); !reflect.DeepEqual(again, want) || !reflect.DeepEqual(l, sample()) {
		t.Error("what was told is written over, and is told, or asked, again")
	}
	asked := cloned(want)
	told, _ := Triples(asked)
	clear(told)
	if again, err := Triples(asked); err != api.OK || !slices.EqualFunc(again, sorted(l), sameTriple) || !reflect.DeepEqual(asked, want) {
		t.Errorf("Triples once more: %s, %d", short(again), err)
	}
	inner := []api.Value{whole(1), list(text("a"))}
	v, _ := Back(asked, list(inner...))
	v.List[0], v.List[1].List[0] = whole(2), text("spoilt")
	if !value.Same(list(inner...), list(whole(1), list(text("a")))) {
		t.Error("Back tells the list that it was handed")
	}
	one := []api.Value{whole(1)}
	v, _ = Back(asked, list(list(one...), list(one...)))
	v.List[0].List[0] = whole(2)
	if !value.Same(v.List[1], list(whole(1))) {
		t.Error("two lists of one answer share memory")
	}
}

// TestTextsWrittenOver: P7.5, R2: texts whose bytes their owner takes back.
func TestTextsWrittenOver(t *testing.T) {
	var lent [][]byte
	lend := func(s string) string {
		b := []byte(s)
		lent = append(lent, b)
		return unsafe.String(&b[0], len(b))
	}
	l := []api.Triple{
		triple(named(lend("a")), named(lend("p")), lit(lend("l"), lend("en"))), triple(blank(lend("b")), named(lend("p")), text(lend("t"))),
		triple(named(lend("a")), named(lend("p")), exact(lend("0.5"))), triple(named(lend("a")), named(lend("q")), blank(lend("b"))),
	}
	kept := cloned(l)
	g := graphOf(t, l...)
	v, _ := Back(g, list(text(lend("in")), lit(lend("l"), lend("x"))))
	w, _ := Back(g, lit(lend("l"), lend("x")))
	for _, b := range lent {
		clear(b)
	}
	if !reflect.DeepEqual(g, expected(kept)) || !value.Same(v, list(text("in"), lit("l", "x"))) || !value.Same(w, lit("l", "x")) {
		t.Errorf("Graph: %s, Back: %s, %s", short(g), short(v), short(w))
	}
	lent = nil
	held := cloned(g)
	for i, n := range held.Nodes {
		held.Nodes[i].Labels[0] = lend(n.Labels[0])
		for j, p := range n.Props {
			n.Props[j].Key = lend(p.Key)
			if p.V.Text != "" {
				n.Props[j].V.Text = lend(p.V.Text)
			}
		}
	}
	for i, e := range held.Edges {
		held.Edges[i].Type = lend(e.Type)
	}
	told, err := Triples(held)
	back, ok := Back(held, theNode(2))
	for _, b := range lent {
		clear(b)
	}
	if err != api.OK || !slices.EqualFunc(told, sorted(kept), sameTriple) || !ok || !value.Same(back, lit("l", "en")) {
		t.Errorf("Triples: %s, %d; Back: %s, %v", short(told), err, short(back), ok)
	}
}

// TestEmptyLists: R2: a list that is empty, and not nil, is none.
func TestEmptyLists(t *testing.T) {
	five := api.Value{Kind: api.KInt, Int: 5, List: []api.Value{}}
	a := api.Value{Kind: api.KIri, Text: "a", List: []api.Value{}}
	g := graphOf(t, triple(a, a, five))
	if !reflect.DeepEqual(g, expected([]api.Triple{triple(named("a"), named("a"), whole(5))})) {
		t.Errorf("Graph: %v", g)
	}
	g.Nodes[1].Props[0].V = five
	g.Edges[0].Props = []api.Pair{}
	l, err := Triples(g)
	v, ok := Back(g, theNode(1))
	if err != api.OK || len(l) != 1 || !value.Same(l[0].O, whole(5)) || !ok || !value.Same(v, whole(5)) {
		t.Errorf("Triples: %v, %d; Back: %v, %v", l, err, v, ok)
	}
	for _, g := range []api.Graph{{}, {Nodes: []api.Node{}, Edges: []api.Edge{}}} {
		if l, err := Triples(g); err != api.OK || len(l) != 0 {
			t.Errorf("Triples of nothing: %v, %d", l, err)
		}
	}
}

// TestEnds: P7.5, R3: what lies in itself, and what lies deep.
func TestEnds(t *testing.T) {
	loop := make([]api.Value, api.MaxParts)
	for i := range loop {
		loop[i].Kind = api.KList
		loop[i].List = loop
	}
	for _, v := range []api.Value{list(loop...), {Kind: api.KIri, Text: "a", List: loop}} {
		if g, err := Graph([]api.Triple{triple(named("a"), named("p"), v)}); err != api.ErrTriple || g.Nodes != nil {
			t.Errorf("Graph of a list in itself: %d", err)
		}
		g := sampleWith(func(g *api.Graph) { g.Nodes[1].Props[0].V = v })
		if l, err := Triples(g); err != api.ErrGraph || l != nil {
			t.Errorf("Triples with a list in itself: %d", err)
		}
		notBack(t, g, theNode(1))
	}
	deep := whole(1)
	for range 1 << 15 {
		deep = list(deep)
	}
	v, ok := Back(api.Graph{}, deep)
	if !ok || !value.Same(v, deep) {
		t.Error("Back of a list that lies deep")
	}
}

// TestFace: the face is the skeleton's.
func TestFace(t *testing.T) {
	var _ func([]api.Triple) (api.Graph, api.Errno) = Graph
	var _ func(api.Graph) ([]api.Triple, api.Errno) = Triples
	var _ func(api.Graph, api.Value) (api.Value, bool) = Back
}

// TestStores: P7.4: the graph's parts are the triples' as the two stores tell them.
func TestStores(t *testing.T) {
	for _, l := range bags() {
		g := graphOf(t, l...)
		ts, _ := triples.Load(l)
		gs, _ := graph.Load(g)
		for i, u := range ts.All() {
			e, there := gs.Edge(int64(i))
			from, ok := Back(g, theNode(e.From))
			to, also := Back(g, theNode(e.To))
			if !there || !ok || !also || !sameTriple(u, triple(from, named(e.Type), to)) || len(e.Props) != 0 {
				t.Fatalf("edge %d is %v, and the triple %v", i, e, u)
			}
			if i == 3 {
				break
			}
		}
		if n := len(g.Edges); n != ts.Len() {
			t.Fatalf("%d edges, %d triples", n, ts.Len())
		}
	}
}

// TestAskedAtOnce: R6: from many goroutines.
func TestAskedAtOnce(t *testing.T) {
	l := sample()
	g := graphOf(t, l...)
	var wg sync.WaitGroup
	for range 8 {
		wg.Go(func() {
			for range 50 {
				h, err := Graph(l)
				back, bad := Triples(g)
				v, ok := Back(g, theNode(3))
				if err != api.OK || bad != api.OK || !ok || !reflect.DeepEqual(h, g) || !slices.EqualFunc(back, sorted(l), sameTriple) || !value.Same(v, lit("l", "en")) {
					t.Error("another answer beside other goroutines")
				}
			}
		})
	}
	wg.Wait()
}
