package hyper

import (
	"math/bits"
	"math/rand"
	"slices"
	"strings"
	"testing"

	"diptych/api"
)

// firsts tells the variables in the order in which they come first.
func firsts(edges [][]string) []string {
	var l []string
	for _, v := range slices.Concat(edges...) {
		if !slices.Contains(l, v) {
			l = append(l, v)
		}
	}
	return l
}

// modelCheck is Check as the chapter words it, of a hypergraph that may be.
func modelCheck(edges [][]string, l []api.Bag, width int) bool {
	if len(l) == 0 || l[0].Parent != -1 {
		return false
	}
	all := firsts(edges)
	for i, b := range l {
		if i > 0 && (b.Parent < 0 || b.Parent >= i) || !modelBag(edges, all, b, width) {
			return false
		}
	}
	for _, e := range edges {
		if !slices.ContainsFunc(l, func(b api.Bag) bool { return modelWithin(e, b.Vars) }) {
			return false
		}
	}
	for _, v := range all {
		tops := 0
		for i, b := range l {
			if slices.Contains(b.Vars, v) && (i == 0 || !slices.Contains(l[b.Parent].Vars, v)) {
				tops++
			}
		}
		if tops != 1 {
			return false
		}
	}
	return true
}

func modelBag(edges [][]string, all []string, b api.Bag, width int) bool {
	if len(b.Edges) > width {
		return false
	}
	var have []string
	for i, e := range b.Edges {
		if e < 0 || e >= len(edges) || i > 0 && e <= b.Edges[i-1] {
			return false
		}
		have = append(have, edges[e]...)
	}
	var sorted []string
	for _, v := range all {
		if slices.Contains(b.Vars, v) {
			sorted = append(sorted, v)
		}
	}
	return slices.Equal(sorted, b.Vars) && modelWithin(b.Vars, have)
}

func modelWithin(few, many []string) bool {
	return !slices.ContainsFunc(few, func(v string) bool { return !slices.Contains(many, v) })
}

// words tells the edges as words of bits, and how many variables there are.
func words(edges [][]string) ([]uint, int) {
	all := firsts(edges)
	var l []uint
	for _, e := range edges {
		var w uint
		for _, v := range e {
			w |= 1 << slices.Index(all, v)
		}
		l = append(l, w)
	}
	return l, len(all)
}

// modelCovers tells, for each set of variables, how few edges have them all.
func modelCovers(edges []uint, n int) []int {
	covers := slices.Repeat([]int{len(edges) + 1}, 1<<n)
	for chosen := range 1 << len(edges) {
		var have uint
		for i, e := range edges {
			if chosen>>i&1 == 1 {
				have |= e
			}
		}
		for part := have; ; part = (part - 1) & have {
			covers[part] = min(covers[part], bits.OnesCount(uint(chosen)))
			if part == 0 {
				break
			}
		}
	}
	return covers
}

// parts is a search for a tree of bags from its top on: what hangs below a bag are the parts into which it parts the variables.
type parts struct {
	edges  []uint
	covers []int
	width  int
	met    map[uint]bool
}

// around tells the variables of the edges that have one of l.
func (p parts) around(l uint) uint {
	all := l
	for _, e := range p.edges {
		if e&l != 0 {
			all |= e
		}
	}
	return all
}

// of tells the parts of l that hang together by edges, without what is not in l.
func (p parts) of(l uint) []uint {
	var told []uint
	for l != 0 {
		part := l & -l
		for p.around(part)&l != part {
			part = p.around(part) & l
		}
		told = append(told, part)
		l &^= part
	}
	return told
}

// can tells whether there is a tree of bags of the width for a part, whose top has all around the part.
func (p parts) can(part uint) bool {
	done, there := p.met[part]
	if there {
		return done
	}
	beside := p.around(part) &^ part
	for inner := part; inner != 0 && !done; inner = (inner - 1) & part {
		done = p.covers[beside|inner] <= p.width && !slices.ContainsFunc(p.of(part&^inner), func(q uint) bool { return !p.can(q) })
	}
	p.met[part] = done
	return done
}

// modelWidth tells the least width by way of the parts.
func modelWidth(edges [][]string) int {
	l, n := words(edges)
	covers := modelCovers(l, n)
	for width := 0; ; width++ {
		p := parts{l, covers, width, map[uint]bool{}}
		if !slices.ContainsFunc(p.of(1<<n-1), func(q uint) bool { return !p.can(q) }) {
			return width
		}
	}
}

// modelAcyclic goes the chapter's steps.
func modelAcyclic(edges [][]string) bool {
	left, n := words(edges)
	for moved := true; moved; {
		moved = false
		for v := range n {
			having := slices.DeleteFunc([]int{0, 1, 2, 3, 4, 5, 6, 7}, func(i int) bool { return i >= len(left) || left[i]>>v&1 == 0 })
			if len(having) == 1 {
				left[having[0]] &^= 1 << v
				moved = true
			}
		}
		for i, e := range left {
			others := slices.Delete(slices.Clone(left), i, i+1)
			if e == 0 || slices.ContainsFunc(others, func(other uint) bool { return e&^other == 0 }) {
				left, moved = others, true
				break
			}
		}
	}
	return len(left) == 0
}

// literalWidth tells the least width by all lists of as many bags as there are variables, the least ones that need be tried.
func literalWidth(edges [][]string) int {
	all := firsts(edges)
	l, n := words(edges)
	covers := modelCovers(l, n)
	least := len(edges)
	var try func(bags []api.Bag, width int)
	try = func(made []api.Bag, width int) {
		if width >= least {
			return
		}
		if len(made) > 0 && modelCheck(edges, made, len(edges)) {
			least = width
			return
		}
		if len(made) == max(n, 1) {
			return
		}
		for part := range 1 << n {
			b := api.Bag{Parent: -1}
			for i, v := range all {
				if part>>i&1 == 1 {
					b.Vars = append(b.Vars, v)
				}
			}
			b.Edges = leastEdges(edges, b.Vars)
			for b.Parent = min(0, len(made)-1); b.Parent < max(len(made), 0); b.Parent++ {
				try(append(slices.Clone(made), b), max(width, covers[part]))
			}
		}
	}
	try(nil, 0)
	return least
}

// leastEdges tells the first of the shortest lists of edges that have all of vars.
func leastEdges(edges [][]string, vars []string) []int {
	var least []int
	for chosen := range 1 << len(edges) {
		var l []int
		var have []string
		for i, e := range edges {
			if chosen>>i&1 == 1 {
				l, have = append(l, i), append(have, e...)
			}
		}
		if modelWithin(vars, have) && (least == nil || len(l) < len(least)) {
			least = l
		}
	}
	return least
}

// random makes a hypergraph of at most so many variables and edges; its edges have about many variables.
func random(r *rand.Rand, vars, edges, many int) [][]string {
	pool := strings.Fields("a b c d e f g h i j k l")
	r.Shuffle(len(pool), func(i, j int) { pool[i], pool[j] = pool[j], pool[i] })
	pool = pool[:vars]
	var l [][]string
	for range edges {
		r.Shuffle(len(pool), func(i, j int) { pool[i], pool[j] = pool[j], pool[i] })
		l = append(l, slices.Clone(pool[:min(len(pool), r.Intn(2*many+1))]))
	}
	return l
}

// someOf makes hypergraphs of all sorts.
func someOf(r *rand.Rand) [][]string {
	return random(r, r.Intn(10), r.Intn(9), 1+r.Intn(3))
}

func width(t *testing.T, edges [][]string) int {
	t.Helper()
	n, err := Width(edges)
	if err != api.OK {
		t.Fatalf("%s: %d", showGraph(edges), err)
	}
	return n
}

func acyclic(t *testing.T, edges [][]string) bool {
	t.Helper()
	is, err := Acyclic(edges)
	if err != api.OK {
		t.Fatalf("%s: %d", showGraph(edges), err)
	}
	return is
}

// TestWidthLiterally: P16.2: of few variables: the least width of all lists of bags.
func TestWidthLiterally(t *testing.T) {
	hold := func(edges [][]string) {
		if got, want := width(t, edges), literalWidth(edges); got != want || modelWidth(edges) != want {
			t.Errorf("%s: %d; want %d; the model says %d", showGraph(edges), got, want, modelWidth(edges))
		}
	}
	few := graph(", a, b, c, a b, b c, a c, a b c")
	for i := range few {
		hold(few[i : i+1])
		for j := range few {
			hold([][]string{few[i], few[j]})
			for k := range few {
				hold([][]string{few[i], few[j], few[k]})
			}
		}
	}
	for _, s := range []string{"a b, b c, c d, d a", "a b c, c d, d a", "a b, b c, c a, a d", "a b, c d", "a b c, b c d, a b d", "a b, a c, a d, b c, b d, c d"} {
		hold(graph(s))
	}
}

// TestWidthModel: P16.2: against a search from the top of the tree on.
func TestWidthModel(t *testing.T) {
	r := rand.New(rand.NewSource(16))
	met := map[int]int{}
	hold := func(edges [][]string) {
		got := width(t, edges)
		if want := modelWidth(edges); got != want {
			t.Errorf("%s: %d; want %d", showGraph(edges), got, want)
		}
		met[got]++
	}
	for range 1500 {
		hold(someOf(r))
	}
	for range 20 {
		hold(random(r, 12, 8, 2))
	}
	for _, c := range samples() {
		hold(c.edges)
	}
	for n := range 4 {
		if met[n] < 4 {
			t.Errorf("width %d is met %d times", n, met[n])
		}
	}
}

// TestAcyclicModel: P16.2: against the chapter's steps.
func TestAcyclicModel(t *testing.T) {
	r := rand.New(rand.NewSource(17))
	met := map[bool]int{}
	for range 20000 {
		edges := someOf(r)
		got := acyclic(t, edges)
		if got != modelAcyclic(edges) {
			t.Errorf("%s: %t", showGraph(edges), got)
		}
		if len(edges) > 3 {
			met[got]++
		}
	}
	if met[true] < 1000 || met[false] < 1000 {
		t.Errorf("met %v", met)
	}
}

// TestWhatFollows: P16.4.
func TestWhatFollows(t *testing.T) {
	r := rand.New(rand.NewSource(18))
	for range 1500 {
		edges := someOf(r)
		n := width(t, edges)
		if acyclic(t, edges) != (n <= 1) {
			t.Errorf("%s: width %d, and acyclic: %t", showGraph(edges), n, acyclic(t, edges))
		}
		if n > len(edges) || (n == 0) != (len(firsts(edges)) == 0) {
			t.Errorf("%s: %d", showGraph(edges), n)
		}
		if len(edges) == 0 || len(edges) == 8 {
			continue
		}
		part := slices.Clone(edges[r.Intn(len(edges))])
		r.Shuffle(len(part), func(i, j int) { part[i], part[j] = part[j], part[i] })
		more := slices.Insert(slices.Clone(edges), r.Intn(len(edges)+1), part[:r.Intn(len(part)+1)])
		if width(t, more) != n {
			t.Errorf("%s: %d, and %s: %d", showGraph(edges), n, showGraph(more), width(t, more))
		}
		if whole := append(slices.Clone(edges), firsts(edges)); width(t, whole) > 1 || !acyclic(t, whole) {
			t.Errorf("%s: %d", showGraph(whole), width(t, whole))
		}
	}
}

// TestOtherOrders: P16.2: the order of edges, of their variables, and names have no part in a width.
func TestOtherOrders(t *testing.T) {
	r := rand.New(rand.NewSource(19))
	for range 500 {
		edges := someOf(r)
		n := width(t, edges)
		other := make([][]string, len(edges))
		for i, j := range r.Perm(len(edges)) {
			for _, k := range r.Perm(len(edges[j])) {
				other[i] = append(other[i], "other_"+edges[j][k])
			}
		}
		if width(t, other) != n || acyclic(t, other) != (n <= 1) {
			t.Errorf("%s: %d, and %s: %d", showGraph(edges), n, showGraph(other), width(t, other))
		}
	}
}

// TestDecomposeModel: P16.3, P16.4: by hypergraphs, widths and seeds of all sorts.
func TestDecomposeModel(t *testing.T) {
	r := rand.New(rand.NewSource(20))
	for range 1500 {
		edges := someOf(r)
		n := width(t, edges)
		for most := 1; most <= 4; most++ {
			seed := int(r.Uint64())
			l, err := Decompose(edges, most, seed)
			if most < n && (err != api.ErrWidth || l != nil) || most >= n && (err != api.OK || !modelCheck(edges, l, most)) {
				t.Errorf("%s in %d by %d: %s, %d", showGraph(edges), most, seed, show(l), err)
			}
		}
	}
}

// spoilt tells bags with something of them changed, often into what may not be.
func spoilt(r *rand.Rand, edges [][]string, l []api.Bag) []api.Bag {
	told := slices.Clone(l)
	i, j := r.Intn(len(l)), r.Intn(len(l))
	b := &told[i]
	b.Vars, b.Edges = slices.Clone(b.Vars), slices.Clone(b.Edges)
	switch r.Intn(9) {
	case 0:
		b.Parent = r.Intn(len(l)+2) - 1
	case 1:
		if len(b.Vars) > 0 {
			k := r.Intn(len(b.Vars))
			b.Vars = slices.Delete(b.Vars, k, k+1)
		}
	case 2:
		if len(b.Edges) > 0 {
			k := r.Intn(len(b.Edges))
			b.Edges = slices.Delete(b.Edges, k, k+1)
		}
	case 3, 4:
		all := append(firsts(edges), "other")
		v := all[r.Intn(len(all))]
		b.Vars = slices.DeleteFunc(all, func(u string) bool { return u != v && !slices.Contains(b.Vars, u) })
	case 5:
		b.Edges = slices.Insert(b.Edges, r.Intn(len(b.Edges)+1), r.Intn(len(edges)+1))
	case 6:
		told[i], told[j] = told[j], told[i]
	case 7:
		told = append(told, api.Bag{Vars: b.Vars, Edges: b.Edges, Parent: j})
	default:
		told = told[:len(told)-1]
	}
	return told
}

// TestCheckModel: P16.1: of decompositions, and of what has been changed in them.
func TestCheckModel(t *testing.T) {
	r := rand.New(rand.NewSource(21))
	met := map[bool]int{}
	for range 4000 {
		edges := someOf(r)
		n := max(1, width(t, edges))
		l, _ := Decompose(edges, n, int(r.Uint64()))
		for range 8 {
			most := n + r.Intn(3) - 1
			got := Check(edges, l, most)
			if got != (most >= 1 && modelCheck(edges, l, most)) {
				t.Errorf("%s in %d: %s: %t", showGraph(edges), most, show(l), got)
			}
			met[got]++
			if len(l) > 0 {
				l = spoilt(r, edges, l)
			}
		}
	}
	if met[true] < 3000 || met[false] < 3000 {
		t.Errorf("met %v", met)
	}
}
