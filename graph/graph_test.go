package graph

import (
	"fmt"
	"math"
	"math/rand"
	"reflect"
	"slices"
	"strings"
	"sync"
	"testing"
	"unsafe"

	"diptych/api"
	"diptych/value"
)

func text(s string) api.Value       { return api.Value{Kind: api.KText, Text: s} }
func truth(b bool) api.Value        { return api.Value{Kind: api.KBool, Bool: b} }
func whole(n int64) api.Value       { return api.Value{Kind: api.KInt, Int: n} }
func exact(s string) api.Value      { return api.Value{Kind: api.KDec, Text: s} }
func list(l ...api.Value) api.Value { return api.Value{Kind: api.KList, List: l} }
func theNode(id int64) api.Value    { return api.Value{Kind: api.KNode, Int: id} }
func theEdge(id int64) api.Value    { return api.Value{Kind: api.KEdge, Int: id} }
func prop(key string, v api.Value) api.Pair {
	return api.Pair{Key: key, V: v}
}
func node(id int64, labels ...string) api.Node { return api.Node{ID: id, Labels: labels} }
func edge(id, from, to int64, kind string) api.Edge {
	return api.Edge{ID: id, From: from, To: to, Type: kind}
}

var longest = strings.Repeat("x", api.MaxText)

// sample is a graph in which nothing stands in its order.
func sample() api.Graph {
	return api.Graph{
		Nodes: []api.Node{
			{ID: 9, Labels: []string{"b", "a\x00", "é", "a", "B", "ab"}, Props: []api.Pair{prop("z", whole(1))}},
			{ID: 0},
			{ID: math.MaxInt64, Labels: []string{"a"}},
			{ID: 4, Labels: []string{"b", "a"}, Props: []api.Pair{prop("z", whole(1)), prop("k", list(whole(2), text("t"), exact("0.5"), truth(true), whole(2))), prop("Z", truth(false)), prop("kk", exact("3.0")), prop("\x00", text("")), prop("l", list())}},
			{ID: 10, Labels: []string{"ab", "b"}, Props: []api.Pair{prop("k", truth(true)), prop("é", text("é"))}},
		},
		Edges: []api.Edge{
			{ID: 7, From: 4, To: 4, Type: "t"},
			{ID: 3, From: 4, To: 9, Type: "t", Props: []api.Pair{prop("w", whole(-5)), prop("v", list(text("a"))), prop("W", text(""))}},
			{ID: math.MaxInt64, From: 9, To: 4, Type: "T"},
			{ID: 0, From: 0, To: math.MaxInt64, Type: "é"},
			{ID: 5, From: 4, To: 9, Type: "tt"},
			{ID: 4, From: 9, To: 4, Type: "t", Props: []api.Pair{prop("w", exact("0.0"))}},
		},
	}
}

// cloned tells v in memory of its own, lists and all.
func cloned[T any](v T) T {
	return deepCopy(reflect.ValueOf(v)).Interface().(T)
}

func deepCopy(v reflect.Value) reflect.Value {
	c := reflect.New(v.Type()).Elem()
	switch v.Kind() {
	case reflect.Struct:
		for i := range v.NumField() {
			c.Field(i).Set(deepCopy(v.Field(i)))
		}
	case reflect.Slice:
		for i := range v.Len() {
			c.Set(reflect.Append(c, deepCopy(v.Index(i))))
		}
	case reflect.String:
		c.SetString(strings.Clone(v.String()))
	default:
		c.Set(v)
	}
	return c
}

// short tells the beginning of v as it is shown.
func short(v any) string {
	s := fmt.Sprint(v)
	return s[:min(len(s), 300)]
}

// plain tells g as Plain is meant to, by the words of P6.1.
func plain(g api.Graph) api.Graph {
	g = cloned(g)
	byKey := func(a, b api.Pair) int { return strings.Compare(a.Key, b.Key) }
	for i := range g.Nodes {
		slices.Sort(g.Nodes[i].Labels)
		slices.SortFunc(g.Nodes[i].Props, byKey)
	}
	for i := range g.Edges {
		slices.SortFunc(g.Edges[i].Props, byKey)
	}
	slices.SortFunc(g.Nodes, func(a, b api.Node) int {
		if a.ID < b.ID {
			return -1
		}
		return 1
	})
	slices.SortFunc(g.Edges, func(a, b api.Edge) int {
		if a.ID < b.ID {
			return -1
		}
		return 1
	})
	return g
}

func load(t *testing.T, g api.Graph) *Store {
	t.Helper()
	s, err := Load(g)
	if err != api.OK || s == nil {
		t.Fatalf("Load of %d nodes and %d edges: %v, %d", len(g.Nodes), len(g.Edges), s != nil, err)
	}
	return s
}

func refused(t *testing.T, what string, g api.Graph) {
	t.Helper()
	if s, err := Load(g); s != nil || err != api.ErrGraph {
		t.Errorf("Load of %s: %v, %d; want ErrGraph", what, s != nil, err)
	}
}

// random makes a graph whose parts stand in any order.
func random(r *rand.Rand) api.Graph {
	labels, types := []string{"a", "b", "c", "aa", "é"}, []string{"t", "u", "tt"}
	values := []api.Value{truth(true), whole(3), exact("3.0"), text("x"), list(), list(whole(1), text("y"))}
	props := func() []api.Pair {
		var l []api.Pair
		for _, i := range r.Perm(5)[:r.Intn(5)] {
			l = append(l, prop(strings.Repeat("k", i+1), values[r.Intn(len(values))]))
		}
		return l
	}
	var g api.Graph
	for _, id := range r.Perm(1 + r.Intn(30)) {
		n := node(int64(3 * id))
		for _, i := range r.Perm(len(labels))[:r.Intn(len(labels))] {
			n.Labels = append(n.Labels, labels[i])
		}
		n.Props = props()
		g.Nodes = append(g.Nodes, n)
	}
	for _, id := range r.Perm(r.Intn(80)) {
		e := edge(int64(2*id), g.Nodes[r.Intn(len(g.Nodes))].ID, g.Nodes[r.Intn(len(g.Nodes))].ID, types[r.Intn(len(types))])
		e.Props = props()
		g.Edges = append(g.Edges, e)
	}
	return g
}

// randoms are graphs of many sizes, the same in every run.
func randoms() []api.Graph {
	r := rand.New(rand.NewSource(6))
	l := []api.Graph{{}, sample()}
	for range 60 {
		l = append(l, random(r))
	}
	return l
}

// TestLoad: P6.1: graphs that may be, at the bounds of what may.
func TestLoad(t *testing.T) {
	full := make([]api.Value, api.MaxParts)
	for i := range full {
		full[i] = text("a")
	}
	for what, g := range map[string]api.Graph{
		"nothing":                      {},
		"empty lists":                  {Nodes: []api.Node{}, Edges: []api.Edge{}},
		"a node 0":                     {Nodes: []api.Node{node(0)}},
		"a node and an edge of one id": {Nodes: []api.Node{node(5)}, Edges: []api.Edge{edge(5, 5, 5, "t")}},
		"two edges alike but for ids":  {Nodes: []api.Node{node(1), node(2)}, Edges: []api.Edge{edge(2, 1, 2, "t"), edge(1, 1, 2, "t")}},
		"a label at two nodes":         {Nodes: []api.Node{node(1, "a"), node(2, "a")}},
		"labels that differ by case":   {Nodes: []api.Node{node(1, "a", "A", "a ", " ", "\x00", "a\x00", "\xff")}},
		"a label, a key and a type":    {Nodes: []api.Node{{ID: 1, Labels: []string{"a"}, Props: []api.Pair{prop("a", text("a"))}}}, Edges: []api.Edge{{ID: 1, From: 1, To: 1, Type: "a", Props: []api.Pair{prop("a", text("a"))}}}},
		"the longest words":            {Nodes: []api.Node{{ID: 1, Labels: []string{longest}, Props: []api.Pair{prop(longest, text(longest))}}}, Edges: []api.Edge{{ID: 1, From: 1, To: 1, Type: longest, Props: []api.Pair{prop(longest, list(text(longest)))}}}},
		"the longest list":             {Nodes: []api.Node{{ID: 1, Props: []api.Pair{prop("k", list(full...))}}}},
		"the greatest ids":             {Nodes: []api.Node{node(math.MaxInt64)}, Edges: []api.Edge{edge(math.MaxInt64, math.MaxInt64, math.MaxInt64, "t")}},
		"a sample":                     sampleWith(func(g *api.Graph) {}),
	} {
		s, err := Load(g)
		if err != api.OK || s == nil {
			t.Errorf("Load of %s: %v, %d", what, s != nil, err)
			continue
		}
		if got := s.Plain(); !reflect.DeepEqual(got, plain(g)) {
			t.Errorf("Plain of %s: %s; want %s", what, short(got), short(plain(g)))
		}
	}
}

// sampleWith is a sample in which one thing is another.
func sampleWith(change func(g *api.Graph)) api.Graph {
	g := sample()
	change(&g)
	return g
}

// TestLoadNone: P6.1: one thing that may not be is enough, wherever it stands.
func TestLoadNone(t *testing.T) {
	for what, change := range map[string]func(g *api.Graph){
		"a node below 0":               func(g *api.Graph) { g.Nodes = append(g.Nodes, node(-1)) },
		"the node furthest below 0":    func(g *api.Graph) { g.Nodes = append(g.Nodes, node(math.MinInt64)) },
		"a node twice":                 func(g *api.Graph) { g.Nodes = append(g.Nodes, g.Nodes[1]) },
		"two nodes of one id":          func(g *api.Graph) { g.Nodes = append(g.Nodes, node(9, "other")) },
		"two nodes of the greatest id": func(g *api.Graph) { g.Nodes = append(g.Nodes, node(math.MaxInt64)) },
		"an edge below 0":              func(g *api.Graph) { g.Edges[2].ID = -1 },
		"the edge furthest below 0":    func(g *api.Graph) { g.Edges[5].ID = math.MinInt64 },
		"two edges of one id":          func(g *api.Graph) { g.Edges[5].ID = 7 },
		"an edge twice":                func(g *api.Graph) { g.Edges = append(g.Edges, g.Edges[0]) },
		"an edge from nowhere":         func(g *api.Graph) { g.Edges[0].From = 1 },
		"an edge to nowhere":           func(g *api.Graph) { g.Edges[5].To = 11 },
		"an edge from below 0":         func(g *api.Graph) { g.Edges[5].From = -1 },
		"an edge to an edge's id":      func(g *api.Graph) { g.Edges[5].To = 7 },
		"edges without nodes":          func(g *api.Graph) { g.Nodes = nil },
		"an empty label":               func(g *api.Graph) { g.Nodes[3].Labels[1] = "" },
		"an only label that is empty":  func(g *api.Graph) { g.Nodes[1].Labels = []string{""} },
		"a label too long":             func(g *api.Graph) { g.Nodes[4].Labels[0] = longest + "x" },
		"a label twice":                func(g *api.Graph) { g.Nodes[0].Labels[5] = "b" },
		"a label twice, side by side":  func(g *api.Graph) { g.Nodes[4].Labels = []string{"a", "b", "b"} },
		"an empty type":                func(g *api.Graph) { g.Edges[1].Type = "" },
		"a type too long":              func(g *api.Graph) { g.Edges[5].Type = longest + "x" },
		"a node's empty key":           func(g *api.Graph) { g.Nodes[3].Props[2].Key = "" },
		"a node's key too long":        func(g *api.Graph) { g.Nodes[3].Props[2].Key = longest + "x" },
		"a node's key twice":           func(g *api.Graph) { g.Nodes[3].Props[5].Key = "z" },
		"a node's property twice":      func(g *api.Graph) { g.Nodes[3].Props[4] = g.Nodes[3].Props[3] },
		"an edge's empty key":          func(g *api.Graph) { g.Edges[1].Props[2].Key = "" },
		"an edge's key too long":       func(g *api.Graph) { g.Edges[1].Props[0].Key = longest + "x" },
		"an edge's key twice":          func(g *api.Graph) { g.Edges[1].Props[2].Key = "w" },
		"an edge's key twice, near":    func(g *api.Graph) { g.Edges[1].Props[1] = prop("w", list()) },
		"a node's key twice, alone":    func(g *api.Graph) { g.Nodes[0].Props = []api.Pair{prop("k", whole(1)), prop("k", whole(2))} },
	} {
		refused(t, what, sampleWith(change))
	}
}

// TestValues: P6.1: which values a property may have.
func TestValues(t *testing.T) {
	fits := []api.Value{
		truth(true), truth(false), whole(0), whole(math.MinInt64), exact("0.0"), exact("-1.5"), text(""), text("\x00\xff"), list(), list(text("")),
		list(truth(true), truth(true)), list(whole(1), exact("1.0"), text("a"), truth(false)),
	}
	plains := []api.Value{
		{}, {Text: "x"}, {Kind: -1}, {Kind: api.KLit + 1}, {Kind: math.MaxInt}, theNode(4), theEdge(7),
		{Kind: api.KIri, Text: "a"}, {Kind: api.KBlank, Text: "a"}, {Kind: api.KLit, Text: "a", Extra: "en"},
		text(longest + "x"), exact(""), exact("3"), exact("3.00"), exact("-0.0"),
		{Kind: api.KBool, Int: 1}, {Kind: api.KInt, Text: "1"}, {Kind: api.KInt, List: []api.Value{whole(1)}}, {Kind: api.KText, Text: "a", Extra: "x"}, {Kind: api.KDec, Text: "1.5", Bool: true},
	}
	long := make([]api.Value, api.MaxParts+1)
	for i := range long {
		long[i] = whole(0)
	}
	wrong := []api.Value{list(list()), list(whole(1), list(whole(1))), list(long...), {Kind: api.KList, Text: "x"}, {Kind: api.KList, Int: 1, List: []api.Value{whole(1)}}}
	for _, v := range plains {
		wrong = append(wrong, v, list(v), list(whole(1), v), list(v, whole(1)))
	}
	for _, v := range fits {
		g := valued(v)
		if got := load(t, g).Plain(); !reflect.DeepEqual(got, plain(g)) {
			t.Errorf("a property %v: %v", v, got)
		}
	}
	for _, v := range wrong {
		both := valued(v)
		refused(t, "a node's property "+short(v), api.Graph{Nodes: both.Nodes})
		both.Nodes[0].Props = nil
		refused(t, "an edge's property "+short(v), both)
	}
}

// valued is a graph with a property v at a node and at an edge.
func valued(v api.Value) api.Graph {
	return api.Graph{
		Nodes: []api.Node{{ID: 4, Props: []api.Pair{prop("k", whole(1)), prop("j", v)}}},
		Edges: []api.Edge{{ID: 7, From: 4, To: 4, Type: "t", Props: []api.Pair{prop("j", v), prop("k", whole(1))}}},
	}
}

// TestCaps: P6.1: as many as there may be, and one more.
func TestCaps(t *testing.T) {
	const most = api.MaxData
	var labels []string
	var props []api.Pair
	for i := range most + 1 {
		labels = append(labels, fmt.Sprint("l", i))
		props = append(props, prop(fmt.Sprint("k", i), whole(int64(i))))
	}
	var g api.Graph
	for i := range int64(2*most + 1) {
		g.Nodes = append(g.Nodes, node(2*most-i, "l"))
	}
	for i := range int64(most + 1) {
		g.Edges = append(g.Edges, edge(most-i, 1, i+1, "t"))
	}
	one := func(labels []string, ofNode, ofEdge []api.Pair) api.Graph {
		return api.Graph{Nodes: []api.Node{{ID: 1, Labels: labels, Props: ofNode}}, Edges: []api.Edge{{ID: 1, From: 1, To: 1, Type: "t", Props: ofEdge}}}
	}
	s := load(t, api.Graph{Nodes: g.Nodes[:2*most], Edges: g.Edges[:most]})
	if n := len(s.Labeled([]string{"l"})); n != 2*most || len(s.Labeled(nil)) != 2*most {
		t.Errorf("%d of %d nodes", n, 2*most)
	}
	if n := len(s.Hops(1, 1, nil)); n != most || len(s.Plain().Edges) != most || len(s.Plain().Nodes) != 2*most {
		t.Errorf("%d of %d edges", n, most)
	}
	p := load(t, one(labels[:most], props[:most], props[:most])).Plain()
	if len(p.Nodes[0].Labels) != most || len(p.Nodes[0].Props) != most || len(p.Edges[0].Props) != most {
		t.Error("not all labels or properties are kept")
	}
	refused(t, "too many nodes", api.Graph{Nodes: g.Nodes})
	refused(t, "too many edges", api.Graph{Nodes: g.Nodes[:2*most], Edges: g.Edges})
	refused(t, "too many labels", one(labels, nil, nil))
	refused(t, "too many properties of a node", one(nil, props, nil))
	refused(t, "too many properties of an edge", one(nil, nil, props))
}

// TestPlain: P6.1: numbers rise, texts are ordered byte by byte: told by hand, and of any graph.
func TestPlain(t *testing.T) {
	p := load(t, sample()).Plain()
	var got []string
	for _, n := range p.Nodes {
		got = append(got, fmt.Sprintf("%d %q", n.ID, n.Labels))
		for _, x := range n.Props {
			got = append(got, fmt.Sprintf("%q=%s", x.Key, value.Text(x.V)))
		}
	}
	for _, e := range p.Edges {
		got = append(got, fmt.Sprintf("%d-%s-%d:%d", e.From, e.Type, e.To, e.ID))
		for _, x := range e.Props {
			got = append(got, fmt.Sprintf("%q=%s", x.Key, value.Text(x.V)))
		}
	}
	want := []string{
		`0 []`, `4 ["a" "b"]`, `"\x00"=`, `"Z"=false`, `"k"=[2, t, 0.5, true, 2]`, `"kk"=3.0`, `"l"=[]`, `"z"=1`,
		`9 ["B" "a" "a\x00" "ab" "b" "é"]`, `"z"=1`, `10 ["ab" "b"]`, `"k"=true`, `"é"=é`, `9223372036854775807 ["a"]`,
		`0-é-9223372036854775807:0`, `4-t-9:3`, `"W"=`, `"v"=[a]`, `"w"=-5`, `9-t-4:4`, `"w"=0.0`, `4-tt-9:5`, `4-t-4:7`, `9-T-4:9223372036854775807`,
	}
	if !slices.Equal(got, want) {
		t.Errorf("Plain:\n%q; want\n%q", got, want)
	}
	for _, g := range randoms() {
		if got := load(t, g).Plain(); !reflect.DeepEqual(got, plain(g)) {
			t.Errorf("Plain of %v: %v", g, got)
		}
	}
}

// numbers are those that graphs of these tests have, and others.
func numbers() []int64 {
	l := []int64{math.MinInt64, math.MaxInt64, math.MaxInt64 - 1, 1 << 32}
	for id := range int64(170) {
		l = append(l, id-5)
	}
	return l
}

// TestParts: P6.1: Node and Edge tell what Plain tells.
func TestParts(t *testing.T) {
	for _, g := range randoms() {
		s, p := load(t, g), plain(g)
		for _, id := range numbers() {
			var n api.Node
			var e api.Edge
			i := slices.IndexFunc(p.Nodes, func(n api.Node) bool { return n.ID == id })
			if i >= 0 {
				n = p.Nodes[i]
			}
			j := slices.IndexFunc(p.Edges, func(e api.Edge) bool { return e.ID == id })
			if j >= 0 {
				e = p.Edges[j]
			}
			if got, there := s.Node(id); there != (i >= 0) || !reflect.DeepEqual(got, n) {
				t.Errorf("Node(%d): %v, %v; want %v", id, got, there, n)
			}
			if got, there := s.Edge(id); there != (j >= 0) || !reflect.DeepEqual(got, e) {
				t.Errorf("Edge(%d): %v, %v; want %v", id, got, there, e)
			}
		}
	}
}

// TestProp: P6.2: properties, told by hand.
func TestProp(t *testing.T) {
	s := load(t, sample())
	for _, test := range []struct {
		v    api.Value
		key  string
		want api.Value
	}{
		{theNode(4), "z", whole(1)}, {theNode(4), "Z", truth(false)}, {theNode(4), "k", list(whole(2), text("t"), exact("0.5"), truth(true), whole(2))},
		{theNode(4), "kk", exact("3.0")}, {theNode(4), "\x00", text("")}, {theNode(4), "l", list()}, {theNode(10), "é", text("é")}, {theNode(10), "k", truth(true)},
		{theEdge(3), "w", whole(-5)}, {theEdge(3), "W", text("")}, {theEdge(3), "v", list(text("a"))}, {theEdge(4), "w", exact("0.0")},
		{theNode(4), "", api.Value{}}, {theNode(4), "kkk", api.Value{}}, {theNode(4), "w", api.Value{}}, {theNode(4), "a", api.Value{}}, {theNode(4), longest + "x", api.Value{}},
		{theNode(0), "z", api.Value{}}, {theNode(3), "w", api.Value{}}, {theNode(-4), "z", api.Value{}}, {theNode(math.MaxInt64), "z", api.Value{}},
		{theEdge(4), "z", api.Value{}}, {theEdge(7), "w", api.Value{}}, {theEdge(9), "z", api.Value{}}, {theEdge(math.MinInt64), "w", api.Value{}}, {theEdge(3), "\x00type", api.Value{}}, {theNode(4), "\x00labels", api.Value{}},
		{api.Value{}, "z", api.Value{}}, {whole(4), "z", api.Value{}}, {whole(3), "w", api.Value{}}, {text("4"), "z", api.Value{}}, {list(theNode(4)), "z", api.Value{}}, {truth(true), "z", api.Value{}},
		{api.Value{Kind: api.KIri, Text: "z"}, "z", api.Value{}}, {api.Value{Kind: -1, Int: 4}, "z", api.Value{}}, {api.Value{Kind: math.MaxInt, Int: 4}, "z", api.Value{}}, {api.Value{Int: 4}, "z", api.Value{}},
	} {
		if got := s.Prop(test.v, test.key); !value.Same(got, test.want) {
			t.Errorf("Prop(%s, %.20q): %v; want %v", value.Text(test.v), test.key, got, test.want)
		}
	}
}

// TestPropAll: P6.2: of any graph every key of every node and edge.
func TestPropAll(t *testing.T) {
	keys := []string{"", "k", "kk", "kkk", "kkkk", "kkkkk", "kkkkkk", "j", "l", "z", "w"}
	find := func(l []api.Pair, key string) api.Value {
		for _, p := range l {
			if p.Key == key {
				return p.V
			}
		}
		return api.Value{}
	}
	for _, g := range randoms() {
		s := load(t, g)
		for _, key := range keys {
			for _, n := range g.Nodes {
				if got := s.Prop(theNode(n.ID), key); !value.Same(got, find(n.Props, key)) {
					t.Errorf("Prop of node %d, %s: %v", n.ID, key, got)
				}
			}
			for _, e := range g.Edges {
				if got := s.Prop(theEdge(e.ID), key); !value.Same(got, find(e.Props, key)) {
					t.Errorf("Prop of edge %d, %s: %v", e.ID, key, got)
				}
			}
		}
	}
}

// TestLabeled: P6.2: nodes that have all of the labels.
func TestLabeled(t *testing.T) {
	const last = math.MaxInt64
	s := load(t, sample())
	for _, test := range []struct {
		labels []string
		want   []int64
	}{
		{nil, []int64{0, 4, 9, 10, last}}, {[]string{}, []int64{0, 4, 9, 10, last}},
		{[]string{"a"}, []int64{4, 9, last}}, {[]string{"b"}, []int64{4, 9, 10}}, {[]string{"a", "b"}, []int64{4, 9}}, {[]string{"b", "a"}, []int64{4, 9}}, {[]string{"a", "a"}, []int64{4, 9, last}},
		{[]string{"ab"}, []int64{9, 10}}, {[]string{"ab", "b", "ab"}, []int64{9, 10}}, {[]string{"ab", "a"}, []int64{9}}, {[]string{"B"}, []int64{9}}, {[]string{"a\x00"}, []int64{9}},
		{[]string{"c"}, nil}, {[]string{"a", "c"}, nil}, {[]string{"c", "a"}, nil}, {[]string{""}, nil}, {[]string{"a", ""}, nil}, {[]string{"A"}, nil}, {[]string{"z"}, nil}, {[]string{longest + "x"}, nil}, {[]string{"t"}, nil},
		{[]string{"b", "a\x00", "é", "a", "B", "ab"}, []int64{9}},
	} {
		if got := s.Labeled(test.labels); !slices.Equal(got, test.want) {
			t.Errorf("Labeled(%.40q): %v; want %v", test.labels, got, test.want)
		}
	}
	if got := load(t, api.Graph{}).Labeled(nil); len(got) != 0 {
		t.Errorf("Labeled of no graph: %v", got)
	}
}

// TestLabeledAll: P6.2: of any graph, against the words.
func TestLabeledAll(t *testing.T) {
	r := rand.New(rand.NewSource(7))
	names := []string{"a", "b", "c", "aa", "é", "d"}
	for _, g := range randoms() {
		s, p := load(t, g), plain(g)
		for range 60 {
			var labels []string
			for range r.Intn(4) {
				labels = append(labels, names[r.Intn(len(names))])
			}
			var want []int64
			for _, n := range p.Nodes {
				all := true
				for _, label := range labels {
					all = all && slices.Contains(n.Labels, label)
				}
				if all {
					want = append(want, n.ID)
				}
			}
			if got := s.Labeled(labels); !slices.Equal(got, want) {
				t.Errorf("Labeled(%q): %v; want %v", labels, got, want)
			}
		}
	}
}

// TestHops: P6.2: edges at nodes; one from a node to itself once in each direction.
func TestHops(t *testing.T) {
	const last = math.MaxInt64
	s := load(t, sample())
	for _, test := range []struct {
		node  int64
		dir   int
		types []string
		want  []int64
	}{
		{4, 1, nil, []int64{3, 5, 7}}, {4, -1, nil, []int64{4, 7, last}}, {4, 0, nil, []int64{3, 4, 5, 7, last}}, {4, 0, []string{}, []int64{3, 4, 5, 7, last}},
		{9, 1, nil, []int64{4, last}}, {9, -1, nil, []int64{3, 5}}, {9, 0, nil, []int64{3, 4, 5, last}},
		{0, 1, nil, []int64{0}}, {0, -1, nil, nil}, {0, 0, nil, []int64{0}}, {last, 1, nil, nil}, {last, -1, nil, []int64{0}}, {last, 0, nil, []int64{0}}, {10, 0, nil, nil}, {10, 1, nil, nil}, {10, -1, nil, nil},
		{4, 0, []string{"t"}, []int64{3, 4, 7}}, {4, 1, []string{"t"}, []int64{3, 7}}, {4, -1, []string{"t"}, []int64{4, 7}}, {4, 0, []string{"T", "tt"}, []int64{5, last}}, {4, 0, []string{"tt", "T", "tt"}, []int64{5, last}}, {4, 0, []string{"t", "x", "t"}, []int64{3, 4, 7}},
		{4, 0, []string{""}, nil}, {4, 0, []string{"x"}, nil}, {4, 0, []string{longest + "x"}, nil}, {4, 1, []string{"T"}, nil}, {0, 1, []string{"é"}, []int64{0}},
		{4, 2, nil, nil}, {4, -2, nil, nil}, {4, math.MaxInt, nil, nil}, {4, math.MinInt, nil, nil}, {4, 3, []string{"t"}, nil},
		{7, 0, nil, nil}, {-4, 0, nil, nil}, {3, 1, nil, nil}, {math.MinInt64, -1, nil, nil},
	} {
		if got := s.Hops(test.node, test.dir, test.types); !slices.Equal(got, test.want) {
			t.Errorf("Hops(%d, %d, %.40q): %v; want %v", test.node, test.dir, test.types, got, test.want)
		}
	}
	loop := load(t, api.Graph{Nodes: []api.Node{node(1)}, Edges: []api.Edge{edge(7, 1, 1, "t")}})
	for dir := -1; dir <= 1; dir++ {
		if got := loop.Hops(1, dir, nil); !slices.Equal(got, []int64{7}) {
			t.Errorf("Hops(1, %d) of an edge from 1 to itself: %v", dir, got)
		}
	}
}

// TestHopsAll: P6.2: of any graph, against the words.
func TestHopsAll(t *testing.T) {
	wanted := [][]string{nil, {"t"}, {"u", "tt"}, {"tt", "t", "u", "t"}, {"v"}, {"v", "u"}}
	for _, g := range randoms() {
		s, p := load(t, g), plain(g)
		for _, id := range numbers() {
			for dir := -2; dir <= 2; dir++ {
				for _, types := range wanted {
					var want []int64
					for _, e := range p.Edges {
						begins, ends := e.From == id && (dir == 1 || dir == 0), e.To == id && (dir == -1 || dir == 0)
						if (begins || ends) && (len(types) == 0 || slices.Contains(types, e.Type)) {
							want = append(want, e.ID)
						}
					}
					if got := s.Hops(id, dir, types); !slices.Equal(got, want) {
						t.Errorf("Hops(%d, %d, %q): %v; want %v", id, dir, types, got, want)
					}
				}
			}
		}
	}
}

// TestFollows: P6.3: Load of Plain tells the same Plain; each edge is among its nodes' hops.
func TestFollows(t *testing.T) {
	for _, g := range randoms() {
		s := load(t, g)
		p := s.Plain()
		if again := load(t, p).Plain(); !reflect.DeepEqual(again, p) {
			t.Errorf("Plain of Plain: %v; want %v", again, p)
		}
		for _, e := range p.Edges {
			if !slices.Contains(s.Hops(e.From, 1, nil), e.ID) || !slices.Contains(s.Hops(e.To, -1, []string{e.Type}), e.ID) {
				t.Errorf("edge %d is not among the hops of its nodes", e.ID)
			}
		}
	}
}

// overwrite makes every list of g, and every cell in it, another one.
func overwrite(g api.Graph) {
	spoil := func(l []api.Pair) {
		for i := range l {
			for j := range l[i].V.List {
				l[i].V.List[j] = theNode(-1)
			}
			l[i] = prop("spoilt", theEdge(-1))
		}
	}
	for i, n := range g.Nodes {
		spoil(n.Props)
		for j := range n.Labels {
			n.Labels[j] = "spoilt"
		}
		g.Nodes[i] = node(-1)
	}
	for i, e := range g.Edges {
		spoil(e.Props)
		g.Edges[i] = edge(-1, -1, -1, "")
	}
}

// TestWrittenOver: P6.4, R2: what was handed in, or told, may be written over.
func TestWrittenOver(t *testing.T) {
	for _, g := range randoms() {
		kept, want := cloned(g), plain(g)
		s := load(t, g)
		if !reflect.DeepEqual(cloned(g), kept) {
			t.Error("Load changed what was handed in")
		}
		overwrite(g)
		if !reflect.DeepEqual(s.Plain(), want) {
			t.Fatal("what was handed in is kept")
		}
		overwrite(s.Plain())
		for _, n := range want.Nodes {
			got, _ := s.Node(n.ID)
			overwrite(api.Graph{Nodes: []api.Node{got}})
			for _, p := range n.Props {
				clear(s.Prop(theNode(n.ID), p.Key).List)
			}
			clear(s.Hops(n.ID, 0, nil))
			clear(s.Hops(n.ID, 1, []string{"t"}))
			clear(s.Labeled(n.Labels))
		}
		for _, e := range want.Edges {
			got, _ := s.Edge(e.ID)
			overwrite(api.Graph{Edges: []api.Edge{got}})
			for _, p := range e.Props {
				clear(s.Prop(theEdge(e.ID), p.Key).List)
			}
		}
		clear(s.Labeled(nil))
		clear(s.Labeled([]string{"a"}))
		if again := load(t, kept); !reflect.DeepEqual(s, again) {
			t.Fatal("what was told is the store's own")
		}
	}
}

// TestAskedIsLeft: P6.4, R2: the lists that are asked with stay as they are.
func TestAskedIsLeft(t *testing.T) {
	s := load(t, sample())
	asked := []string{"b", "a", "b", "tt", "t"}
	s.Labeled(asked[:3])
	s.Hops(4, 0, asked[2:4])
	if !slices.Equal(asked, []string{"b", "a", "b", "tt", "t"}) {
		t.Errorf("asked with %q", asked)
	}
}

// TestBehind: P6.4, R2: what lies behind a list's length is neither read nor written.
func TestBehind(t *testing.T) {
	nodes := []api.Node{node(2, "b", "a", "", "b"), node(1), node(-1), node(2)}
	nodes[0].Labels = nodes[0].Labels[:2]
	nodes[0].Props = []api.Pair{prop("k", whole(1)), prop("j", list(whole(1), list())), prop("", theNode(1))}[:2]
	nodes[0].Props[1].V.List = nodes[0].Props[1].V.List[:1]
	edges := []api.Edge{edge(3, 1, 2, "t"), edge(-1, 9, 9, "")}
	s := load(t, api.Graph{Nodes: nodes[:2], Edges: edges[:1]})
	want := api.Graph{Nodes: []api.Node{node(1), {ID: 2, Labels: []string{"a", "b"}, Props: []api.Pair{prop("j", list(whole(1))), prop("k", whole(1))}}}, Edges: []api.Edge{edge(3, 1, 2, "t")}}
	if got := s.Plain(); !reflect.DeepEqual(cloned(got), want) {
		t.Errorf("Plain: %v", got)
	}
	n := nodes[0]
	if nodes[2].ID != -1 || nodes[3].ID != 2 || edges[1].ID != -1 || !slices.Equal(n.Labels[:4], []string{"b", "a", "", "b"}) || n.Props[:3][2].Key != "" || n.Props[1].V.List[:2][1].Kind != api.KList {
		t.Error("Load wrote behind a list's length")
	}
}

// TestUnshared: P6.4, R2: no two lists of one answer share memory, not even behind their length.
func TestUnshared(t *testing.T) {
	p := load(t, sample()).Plain()
	want := cloned(p)
	for i, n := range p.Nodes {
		_, _ = append(n.Labels, "spoilt"), append(n.Props, prop("spoilt", whole(0)))
		for _, x := range p.Nodes[i].Props {
			_ = append(x.V.List, text("spoilt"))
		}
	}
	for _, e := range p.Edges {
		_ = append(e.Props, prop("spoilt", whole(0)))
	}
	if !reflect.DeepEqual(p, want) {
		t.Errorf("Plain: %v; want %v", p, want)
	}
}

// TestOneList: P6.4, R2: one list that stands in many places of a graph is many lists of the answer.
func TestOneList(t *testing.T) {
	labels, props := []string{"a", "b"}, []api.Pair{prop("k", list(whole(1), whole(2)))}
	g := api.Graph{
		Nodes: []api.Node{{ID: 1, Labels: labels, Props: props}, {ID: 2, Labels: labels, Props: props}},
		Edges: []api.Edge{{ID: 1, From: 1, To: 2, Type: "t", Props: props}, {ID: 2, From: 1, To: 2, Type: "t", Props: props}},
	}
	p := load(t, g).Plain()
	want := cloned(p)
	overwrite(api.Graph{Nodes: p.Nodes[:1], Edges: p.Edges[:1]})
	if !reflect.DeepEqual(p.Nodes[1], want.Nodes[1]) || !reflect.DeepEqual(p.Edges[1], want.Edges[1]) {
		t.Errorf("lists of one answer share memory: %v", p)
	}
}

// TestTextsWrittenOver: P6.4, R2: texts whose bytes their owner takes back.
func TestTextsWrittenOver(t *testing.T) {
	var lent [][]byte
	lend := func(s string) string {
		b := []byte(s)
		lent = append(lent, b)
		return unsafe.String(&b[0], len(b))
	}
	g := api.Graph{
		Nodes: []api.Node{{ID: 1, Labels: []string{lend("label")}, Props: []api.Pair{prop(lend("key"), list(text(lend("one")))), prop(lend("other"), text(lend("two")))}}},
		Edges: []api.Edge{{ID: 1, From: 1, To: 1, Type: lend("type"), Props: []api.Pair{prop(lend("key"), exact(lend("0.5")))}}},
	}
	s, want := load(t, g), cloned(g)
	for _, b := range lent {
		clear(b)
	}
	if got := s.Plain(); !reflect.DeepEqual(got, want) {
		t.Errorf("Plain: %v; want %v", got, want)
	}
	if !value.Same(s.Prop(theEdge(1), "key"), exact("0.5")) || len(s.Labeled([]string{"label"})) != 1 || len(s.Hops(1, 1, []string{"type"})) != 1 {
		t.Error("what was written over is asked")
	}
	seen := map[*byte]int{}
	for answer := range 3 {
		p := s.Plain()
		n, _ := s.Node(1)
		e, _ := s.Edge(1)
		told := []string{s.Prop(theEdge(1), "key").Text, s.Prop(theNode(1), "key").List[0].Text, p.Nodes[0].Labels[0], n.Labels[0], p.Edges[0].Type, e.Type, p.Edges[0].Props[0].Key, e.Props[0].Key, p.Nodes[0].Props[0].Key, n.Props[1].Key, n.Props[1].V.Text, p.Nodes[0].Props[1].V.Text}
		for i, text := range told {
			at := unsafe.StringData(text)
			if seen[at]++; seen[at] > 1 {
				t.Errorf("answer %d: text %d, %q, shares its bytes with one ahead of it", answer, i, text)
			}
		}
	}
}

// TestEmptyLists: R2: a list that is empty, and not nil, is none.
func TestEmptyLists(t *testing.T) {
	g := api.Graph{
		Nodes: []api.Node{{ID: 1, Labels: []string{}, Props: []api.Pair{}}, {ID: 2, Props: []api.Pair{prop("k", api.Value{Kind: api.KInt, Int: 3, List: []api.Value{}})}}},
		Edges: []api.Edge{{ID: 1, From: 1, To: 1, Type: "t", Props: []api.Pair{}}},
	}
	if got := load(t, g).Plain(); !reflect.DeepEqual(got, cloned(g)) {
		t.Errorf("Plain: %v", got)
	}
}

// TestEnds: P6.4, R3: lists that lie in themselves.
func TestEnds(t *testing.T) {
	loop := make([]api.Value, api.MaxParts)
	for i := range loop {
		loop[i].Kind = api.KList
		loop[i].List = loop
	}
	for _, v := range []api.Value{list(loop...), {Kind: api.KInt, List: loop}, {List: loop}} {
		refused(t, "a list in itself", valued(v))
	}
	s := load(t, sample())
	if got := s.Prop(list(loop...), "k"); !value.Same(got, api.Value{}) {
		t.Errorf("Prop of a list in itself: %v", got)
	}
	if got := s.Prop(api.Value{Kind: api.KEdge, Int: 8, List: loop}, "k"); !value.Same(got, api.Value{}) {
		t.Errorf("Prop of an edge that there is not: %v", got)
	}
}

// TestLongAsks: P6.4, R3: lists that are asked with may be as long as they like.
func TestLongAsks(t *testing.T) {
	const many = 1 << 16
	var g api.Graph
	for id := range int64(2000) {
		g.Nodes = append(g.Nodes, node(id, "a", "b"))
		g.Edges = append(g.Edges, edge(id, 0, id, "t"))
	}
	s := load(t, g)
	labels, types := make([]string, many), make([]string, many)
	for i := range many {
		labels[i], types[i] = []string{"a", "b"}[i%2], fmt.Sprint(i)
	}
	if n := len(s.Labeled(labels)); n != len(g.Nodes) {
		t.Errorf("%d of %d nodes", n, len(g.Nodes))
	}
	if n := len(s.Hops(0, 1, types)); n != 0 {
		t.Errorf("%d edges of no such type", n)
	}
	types[many/2] = "t"
	if n := len(s.Hops(0, 1, types)); n != len(g.Edges) {
		t.Errorf("%d of %d edges", n, len(g.Edges))
	}
}

// TestAlone: P6.4, R2: stores know nothing of one another.
func TestAlone(t *testing.T) {
	s := load(t, sample())
	load(t, api.Graph{Nodes: []api.Node{node(4, "other"), node(77, "a")}, Edges: []api.Edge{edge(7, 4, 77, "other")}})
	refused(t, "two nodes of one id", api.Graph{Nodes: []api.Node{node(4), node(4)}})
	if !reflect.DeepEqual(s.Plain(), plain(sample())) || len(s.Labeled([]string{"other"})) != 0 || len(s.Hops(77, 0, nil)) != 0 {
		t.Error("stores share what they keep")
	}
}

// TestFace: the face is the skeleton's.
func TestFace(t *testing.T) {
	store := reflect.TypeFor[*Store]()
	var got []string
	for i := range store.NumMethod() {
		got = append(got, store.Method(i).Name)
	}
	if want := []string{"Edge", "Hops", "Labeled", "Node", "Plain", "Prop"}; !slices.Equal(got, want) {
		t.Errorf("methods: %v; want %v", got, want)
	}
	for i := range store.Elem().NumField() {
		if f := store.Elem().Field(i); f.IsExported() {
			t.Errorf("Store shows %s", f.Name)
		}
	}
}

// TestAskedAtOnce: R6: a store may be asked from many goroutines.
func TestAskedAtOnce(t *testing.T) {
	s, want := load(t, sample()), plain(sample())
	var wg sync.WaitGroup
	for range 8 {
		wg.Go(func() {
			for range 50 {
				n, _ := s.Node(4)
				e, _ := s.Edge(3)
				same := reflect.DeepEqual(s.Plain(), want) && n.ID == 4 && e.To == 9 && value.Same(s.Prop(theNode(4), "z"), whole(1))
				if !same || len(s.Labeled([]string{"b", "a"})) != 2 || len(s.Hops(4, 0, []string{"t", "T"})) != 4 {
					t.Error("another answer beside other goroutines")
				}
			}
		})
	}
	wg.Wait()
}
