package hyper

import (
	"math"
	"slices"
	"strconv"
	"strings"
	"testing"

	"diptych/api"
)

// graph reads edges, with commas between: variables, with blanks between. The empty text has no edge, a comma two that are empty.
func graph(s string) [][]string {
	var edges [][]string
	if s == "" {
		return nil
	}
	for _, e := range strings.Split(s, ",") {
		edges = append(edges, strings.Fields(e))
	}
	return edges
}

// bags reads bags, with semicolons between: the parent, variables, edges, with colons between.
func bags(s string) []api.Bag {
	var l []api.Bag
	if s == "" {
		return nil
	}
	number := func(s string) int {
		n, err := strconv.Atoi(strings.TrimSpace(s))
		if err != nil {
			panic(err)
		}
		return n
	}
	for _, words := range strings.Split(s, ";") {
		w := strings.Split(words, ":")
		b := api.Bag{Parent: number(w[0]), Vars: strings.Fields(w[1])}
		for _, e := range strings.Fields(w[2]) {
			b.Edges = append(b.Edges, number(e))
		}
		l = append(l, b)
	}
	return l
}

// show tells bags in the words of bags; nil and empty lists are one in it.
func show(l []api.Bag) string {
	var all []string
	for _, b := range l {
		edges := make([]string, len(b.Edges))
		for i, e := range b.Edges {
			edges[i] = strconv.Itoa(e)
		}
		all = append(all, strconv.Itoa(b.Parent)+":"+strings.Join(b.Vars, " ")+":"+strings.Join(edges, " "))
	}
	return strings.Join(all, "; ")
}

func showGraph(edges [][]string) string {
	var all []string
	for _, e := range edges {
		all = append(all, strings.Join(e, " "))
	}
	s := strings.Join(all, ", ")
	return s[:min(len(s), 300)]
}

// names tells so many names, all unlike.
func names(n int) []string {
	var l []string
	for i := range n {
		l = append(l, "v"+strconv.Itoa(i))
	}
	return l
}

// round tells a cycle of so many edges.
func round(n int) [][]string {
	var edges [][]string
	for i := range n {
		edges = append(edges, []string{names(n)[i], names(n)[(i+1)%n]})
	}
	return edges
}

// corners tells an edge for each corner of a cube, whose variables are the cube's edges there: eight edges, twelve variables.
func corners() [][]string {
	var edges [][]string
	for corner := range 8 {
		var e []string
		for way := range 3 {
			e = append(e, "w"+strconv.Itoa(way)+strconv.Itoa(corner&^(1<<way)))
		}
		edges = append(edges, e)
	}
	return edges
}

// sample is a hypergraph whose width is known.
type sample struct {
	what  string
	edges [][]string
	width int
}

func samples() []sample {
	all := strings.Fields("a b c d e f g h i j k l")
	return []sample{
		{"no edges", nil, 0},
		{"no edges, but a list", [][]string{}, 0},
		{"an edge without variables", [][]string{nil}, 0},
		{"eight edges without variables", make([][]string, 8), 0},
		{"a variable", graph("a"), 1},
		{"a variable and an edge without any", graph(", a,"), 1},
		{"the same edge twice", graph("a b, b a"), 1},
		{"the same edge eight times", slices.Repeat(graph("a b c"), 8), 1},
		{"twelve variables in an edge", [][]string{all}, 1},
		{"eight edges with twelve variables each", slices.Repeat([][]string{all}, 8), 1},
		{"a path", graph("a b, b c, c d, d e"), 1},
		{"a path in disorder", graph("c d, a b, d e, b c"), 1},
		{"a star", graph("m a, m b, m c, m d, m e, m f, m g, m h"), 1},
		{"edges apart", graph("a b, c d, e f, g h, i j, k l"), 1},
		{"variables apart", graph("a, b, c, d, e, f, g, h"), 1},
		{"a tree of great edges", graph("a b c, c d e, e f g, e h i, c j, k l b"), 1},
		{"three edges around one", graph("a b c, c d e, e f a, a c e"), 1},
		{"the same, cut open", graph("a b c, c d e, e f a"), 2},
		{"a triangle", graph("a b, b c, c a"), 2},
		{"a triangle and its face", graph("a b, b c, c a, a b c"), 1},
		{"a triangle with a tail", graph("a b, b c, c a, c d, d e"), 2},
		{"two triangles apart", graph("a b, b c, c a, d e, e f, f d"), 2},
		{"two triangles and the face of one", graph("a b, b c, c a, a b c, c d, d e, e c"), 2},
		{"a cycle of four", round(4), 2},
		{"a cycle of eight", round(8), 2},
		{"a cycle of great edges", graph("a b c, c d e, e f g, g h i, i j k, k l a"), 2},
		{"a cycle and all of it", append(round(7), names(7)), 1},
		{"a wheel of four spokes", graph("a b, b c, c d, d a, m a, m b, m c, m d"), 2},
		{"four, each with each", graph("a b, a c, a d, b c, b d, c d"), 2},
		{"the faces of a tetrahedron", graph("a b c, a b d, a c d, b c d"), 2},
		{"five, each with each, by an edge of three", graph("a b c, a d, a e, b d, b e, c d, c e, d e"), 2},
		{"Fano's plane", graph("a b c, a d e, a f g, b d f, b e g, c d g, c e f"), 3},
		{"Fano's plane and a line more", graph("a b c, a d e, a f g, b d f, b e g, c d g, c e f, a b d"), 3},
		{"the corners of a cube", corners(), 3},
		{"five edges, each with each", graph("a b c d, a e f g, b e h i, c f h j, d g i j"), 3},
		{"few edges have all, those that have most are not among them", graph("a b c d, e f g h, a b e f i, c g, d h, a g, b h, c e"), 2},
	}
}

// TestExamples: the chapter's examples.
func TestExamples(t *testing.T) {
	triangle := graph("a b, b c, c a")
	if n, err := Width(triangle); n != 2 || err != api.OK {
		t.Errorf("a triangle: %d, %d", n, err)
	}
	if is, err := Acyclic(triangle); is || err != api.OK {
		t.Errorf("a triangle: %t, %d", is, err)
	}
	if n, err := Width(append(triangle, strings.Fields("a b c"))); n != 1 || err != api.OK {
		t.Errorf("a triangle and its face: %d, %d", n, err)
	}
	if n, err := Width(nil); n != 0 || err != api.OK {
		t.Errorf("no edges: %d, %d", n, err)
	}
	if l, err := Decompose(nil, 1, 0); show(l) != "-1::" || err != api.OK {
		t.Errorf("no edges: %s, %d", show(l), err)
	}
}

// TestWidths: P16.2: Width and Acyclic of hypergraphs of all sorts.
func TestWidths(t *testing.T) {
	for _, c := range samples() {
		if n, err := Width(c.edges); n != c.width || err != api.OK {
			t.Errorf("Width of %s: %d, %d; want %d", c.what, n, err, c.width)
		}
		if is, err := Acyclic(c.edges); is != (c.width <= 1) || err != api.OK {
			t.Errorf("Acyclic of %s: %t, %d", c.what, is, err)
		}
	}
}

// TestCheck: P16.1: what a decomposition is, condition by condition.
func TestCheck(t *testing.T) {
	path, triangle := "a b, b c, c d", "a b, b c, c a"
	for _, c := range []struct {
		what, edges, bags string
		width             int
		want              bool
	}{
		{"no edges", "", "-1::", 1, true},
		{"no bags", "", "", 1, false},
		{"no bags for edges without variables", ",", "", 1, false},
		{"an edge without variables", ",", "-1::", 1, true},
		{"and it in a bag", ",", "-1::0 1", 2, true},
		{"many bags without anything", "", "-1::; 0::; 0::; 2::", 1, true},
		{"one edge", "a b", "-1:a b:0", 1, true},
		{"a path", path, "-1:a b:0; 0:b c:1; 1:c d:2", 1, true},
		{"a path from its middle", path, "-1:b c:1; 0:a b:0; 0:c d:2", 1, true},
		{"a bag without anything at the top", path, "-1::; 0:a b:0; 1:b c:1; 2:c d:2", 1, true},
		{"a bag without anything between parts", "a, b", "-1:a:0; 0::; 1:b:1", 1, true},
		{"the same bag again", path, "-1:a b:0; 0:b c:1; 1:b c:1; 2:c d:2", 1, true},
		{"a part of a bag above it", path, "-1:b:0; 0:a b:0; 0:b c:1; 2:c d:2", 1, true},
		{"edges that have nothing of the bag", path, "-1:a b:0 2; 0:b c:1 2; 1:c d:0 1 2", 3, true},
		{"a triangle", triangle, "-1:a b c:0 1", 2, true},
		{"a triangle by other edges", triangle, "-1:a b c:1 2", 2, true},
		{"a triangle by all of them", triangle, "-1:a b c:0 1 2", 3, true},
		{"the same edge by its like", "a b, a b", "-1:a b:1", 1, true},
		{"one bag for all", path, "-1:a b c d:0 2", 2, true},

		{"no width", "", "-1::", 0, false},
		{"a width below 0", "", "-1::", -1, false},
		{"the least width", "a b", "-1:a b:0", math.MinInt, false},
		{"the greatest width", "a b", "-1:a b:0", math.MaxInt, true},
		{"more edges than the width", triangle, "-1:a b c:0 1", 1, false},
		{"more edges than the width, though they are not needed", path, "-1:a b:0; 0:b c:1 2; 1:c d:2", 1, false},
		{"more edges than the width, in the last bag", path, "-1:a b:0; 0:b c:1; 1:c d:0 1 2", 2, false},

		{"the first one has a parent", "a b", "0:a b:0", 1, false},
		{"the first one has a parent ahead of -1", "a b", "-2:a b:0", 1, false},
		{"the first one has a parent behind", path, "1:a b:0; 0:b c:1; 1:c d:2", 1, false},
		{"a second one without a parent", path, "-1:a b:0; -1:b c:1; 1:c d:2", 1, false},
		{"a second one without a parent, apart", "a, b", "-1:a:0; -1:b:1", 1, false},
		{"a parent below -1", "a, b", "-1:a:0; -2:b:1", 1, false},
		{"its own parent", "a, b", "-1:a:0; 1:b:1", 1, false},
		{"a parent behind", path, "-1:a b:0; 2:c d:2; 0:b c:1", 1, false},
		{"a parent that there is not", "a, b", "-1:a:0; 2:b:1", 1, false},
		{"a parent far away", "a, b", "-1:a:0; 9223372036854775807:b:1", 1, false},
		{"a parent far below", "a, b", "-1:a:0; -9223372036854775808:b:1", 1, false},

		{"a variable that there is not", "a b", "-1:a b x:0", 1, false},
		{"a variable that there is not, alone", "a b", "-1:a b:0; 0:x:0", 1, false},
		{"a variable twice", "a b", "-1:a a b:0", 1, false},
		{"a variable twice, apart", "a b", "-1:a b a:0", 1, false},
		{"variables in another order", "a b", "-1:b a:0", 1, false},
		{"variables in another order than they come first", "b a, c b", "-1:a b:0; 0:b c:1", 1, false},
		{"variables in the order in which they come first", "b a, c b", "-1:b a:0; 0:b c:1", 1, true},
		{"variables in the edge's order, which is not the first one", "a b, c a", "-1:a b:0; 0:c a:1", 1, false},
		{"variables in the first order, which is not the edge's", "a b, c a", "-1:a b:0; 0:a c:1", 1, true},
		{"a variable without a name", "a", "-1:a:0; 0:_:0", 1, false},

		{"an edge below 0", "a b", "-1:a b:-1 0", 2, false},
		{"an edge that there is not", "a b", "-1:a b:0 1", 2, false},
		{"an edge far away", "a b", "-1:a b:0 9223372036854775807", 2, false},
		{"an edge twice", path, "-1:a b:0 0; 0:b c:1; 1:c d:2", 2, false},
		{"edges that fall", triangle, "-1:a b c:1 0", 2, false},
		{"edges where there are none", "", "-1::0", 1, false},

		{"an edge in no bag", path, "-1:a b:0; 0:b c:1", 1, false},
		{"the first edge in no bag", path, "-1:b c:1; 0:c d:2", 1, false},
		{"an edge in no bag, though its variables are", triangle, "-1:a b:0; 0:b c:1", 1, false},
		{"an edge parted by two bags", "a b c, c d", "-1:b c:0; 0:a b:0; 0:c d:1", 1, false},
		{"no variables", "a", "-1::", 1, false},

		{"a path in another order", path, "-1:a b:0; 0:c d:2; 1:b c:1", 1, false},
		{"not connected by the parent", "a b, b c", "-1::0; 0:a b:0; 0:b c:1", 1, false},
		{"not connected: two beside one another", "a b, a c, a d", "-1:a b:0; 0::; 1:a c:1; 1:a d:2", 1, false},
		{"not connected: a bag without it between", path, "-1:a b:0; 0:b c:1; 1:c:1; 2:b:0; 1:c d:2", 1, false},
		{"a variable again far below", path, "-1:a b:0; 0:b c:1; 1:c d:2; 2:a:0", 1, false},
		{"a triangle in three bags", triangle, "-1:a b:0; 0:b c:1; 1:a c:2", 1, false},

		{"a variable of no edge of the bag", path, "-1:a b:0; 0:b c:1; 1:c d:1", 1, false},
		{"variables of no edge", path, "-1:a b:; 0:b c:1; 1:c d:2", 1, false},
		{"a variable more than its edges have", triangle, "-1:a b c:0", 2, false},
	} {
		if got := Check(graph(c.edges), bags(c.bags), c.width); got != c.want {
			t.Errorf("%s: %t", c.what, got)
		}
		if got := Check(graph(c.edges), bags(c.bags), c.width); c.width > 0 && got != modelCheck(graph(c.edges), bags(c.bags), c.width) {
			t.Errorf("%s: %t, and the model says otherwise", c.what, got)
		}
	}
}

// refusals are hypergraphs that may not be.
func refusals() []sample {
	l := []sample{
		{"nine edges", graph("a b, b c, c d, d e, e f, f g, g h, h i, i j"), 0},
		{"nine edges without variables", make([][]string, 9), 0},
		{"the same edge nine times", slices.Repeat(graph("a"), 9), 0},
		{"thirteen variables in an edge", [][]string{names(13)}, 0},
		{"thirteen variables in two edges", [][]string{names(12), {"a"}}, 0},
		{"thirteen variables in eight edges", graph("a b, c d, e f, g h, i j, k l, m, a m"), 0},
		{"a variable twice in an edge", graph("a a"), 0},
		{"a variable twice in an edge, apart", graph("a b c a"), 0},
		{"a variable twice in the last edge", graph("a b, b c, c d b c"), 0},
		{"a name that is too long", [][]string{{"a", strings.Repeat("n", 65)}}, 0},
		{"a name that is far too long", [][]string{{strings.Repeat("n", 1<<20)}}, 0},
	}
	for _, name := range []string{"", " ", "0", "9a", "a ", " a", "a b", "a-b", "a.b", "?a", "a/", "a:", "a@", "a[", "a`", "a{", "@", "[", "`", "{", "é", "a\x00", "a\xff", "a\n", "ａ"} {
		l = append(l, sample{"the name " + strconv.Quote(name), [][]string{{"ok"}, {"a", name}}, 0})
	}
	return l
}

// TestRefusals: P16.1 to P16.3: no answer of what may not be.
func TestRefusals(t *testing.T) {
	for _, c := range refusals() {
		if n, err := Width(c.edges); n != 0 || err != api.ErrArg {
			t.Errorf("Width of %s: %d, %d", c.what, n, err)
		}
		if is, err := Acyclic(c.edges); is || err != api.ErrArg {
			t.Errorf("Acyclic of %s: %t, %d", c.what, is, err)
		}
		for _, width := range []int{0, 1, 8} {
			if l, err := Decompose(c.edges, width, 0); l != nil || err != api.ErrArg {
				t.Errorf("Decompose of %s: %s, %d", c.what, show(l), err)
			}
		}
		all := map[string]bool{}
		one := api.Bag{Parent: -1}
		for i, e := range c.edges {
			one.Edges = append(one.Edges, i)
			for _, name := range e {
				if !all[name] {
					one.Vars = append(one.Vars, name)
				}
				all[name] = true
			}
		}
		if Check(c.edges, []api.Bag{one}, len(c.edges)) {
			t.Errorf("Check of %s", c.what)
		}
	}
}

// TestNames: P16.1 to P16.3: names that may be, as they stand.
func TestNames(t *testing.T) {
	most := strings.Repeat("n", 64)
	edges := [][]string{{"a", "z", "A"}, {"Z", "_", "A"}, {"a0", "_9", "A"}, {most, most[1:], "A"}}
	if n, err := Width(edges); n != 1 || err != api.OK {
		t.Errorf("%d, %d", n, err)
	}
	l, err := Decompose(edges, 1, 0)
	if err != api.OK || !modelCheck(edges, l, 1) {
		t.Errorf("%s, %d", show(l), err)
	}
}

// TestDecompose: P16.3: of every width from the least one on there is one; below there is none.
func TestDecompose(t *testing.T) {
	seeds := []int{0, 1, 2, 3, 7, 100, 5039, 1 << 40, -1, -2, math.MaxInt, math.MinInt}
	for _, c := range samples() {
		for _, width := range []int{math.MinInt, -1, 0} {
			if l, err := Decompose(c.edges, width, 0); l != nil || err != api.ErrArg {
				t.Errorf("%s in %d: %s, %d", c.what, width, show(l), err)
			}
		}
		for _, width := range []int{1, 2, 3, 4, 8, 9, math.MaxInt} {
			for _, seed := range seeds {
				l, err := Decompose(c.edges, width, seed)
				switch {
				case width < c.width && (l != nil || err != api.ErrWidth):
					t.Errorf("%s in %d by %d: %s, %d; want ErrWidth", c.what, width, seed, show(l), err)
				case width >= c.width && (err != api.OK || !modelCheck(c.edges, l, width) || !Check(c.edges, l, width)):
					t.Errorf("%s in %d by %d: %s, %d", c.what, width, seed, show(l), err)
				}
				again, _ := Decompose(c.edges, width, seed)
				if show(again) != show(l) {
					t.Errorf("%s in %d by %d: %s, then %s", c.what, width, seed, show(l), show(again))
				}
			}
		}
	}
}

// TestFewBags: no bag is told within another one.
func TestFewBags(t *testing.T) {
	for _, c := range samples() {
		for seed := range 30 {
			l, _ := Decompose(c.edges, max(1, c.width), seed)
			for i, b := range l {
				for j, other := range l {
					if i != j && !slices.ContainsFunc(b.Vars, func(v string) bool { return !slices.Contains(other.Vars, v) }) {
						t.Errorf("%s by %d: %s", c.what, seed, show(l))
					}
				}
			}
		}
	}
}

// TestTurned: every order of the variables is chosen by a seed.
func TestTurned(t *testing.T) {
	met := map[string]int{}
	for seed := range 120 {
		var all []string
		for _, v := range turned(5, seed) {
			all = append(all, strconv.Itoa(int(v)))
		}
		met[strings.Join(all, " ")]++
		slices.Sort(all)
		if !slices.Equal(all, strings.Fields("0 1 2 3 4")) {
			t.Errorf("%d: %v", seed, all)
		}
	}
	if len(met) != 120 || met["0 1 2 3 4"] != 1 {
		t.Errorf("%d orders", len(met))
	}
	if len(turned(0, 7)) != 0 || len(turned(12, math.MinInt)) != 12 {
		t.Error("orders of none and of twelve")
	}
}
