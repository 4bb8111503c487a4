package hyper

import (
	"math"
	"reflect"
	"runtime"
	"slices"
	"strings"
	"sync"
	"testing"
	"unsafe"

	"diptych/api"
)

// many are hypergraphs with more than one bag, with names longer than a byte.
func many() [][][]string {
	return [][][]string{
		nil, {nil, {}}, graph("alpha beta, beta gamma, gamma delta, delta alpha"), graph("one two three, three four, four five six, six one, seven eight,"), corners(), round(8), slices.Repeat(graph("same_one same_two"), 3),
	}
}

// loose tells a copy of a list whose lists each have more behind their lengths than they show, with something there; so have empty ones.
func loose(edges [][]string) [][]string {
	told := make([][]string, 0, len(edges)+2)
	for _, e := range edges {
		told = append(told, append(slices.Grow(slices.Clone(e), 3), "behind", "behind", "behind")[:len(e)])
	}
	return append(told, []string{"behind"}, []string{"0", "0"})[:len(edges)]
}

func looseBags(l []api.Bag) []api.Bag {
	told := make([]api.Bag, 0, len(l)+1)
	for _, b := range l {
		b.Vars = append(slices.Clone(b.Vars), "behind", "behind")[:len(b.Vars)]
		b.Edges = append(slices.Clone(b.Edges), -7, -7)[:len(b.Edges)]
		told = append(told, b)
	}
	return append(told, api.Bag{Parent: -7})[:len(l)]
}

// whole tells a list with what stands behind the lengths of it and of its lists.
func whole(edges [][]string) [][]string {
	var told [][]string
	for _, e := range edges[:cap(edges)] {
		told = append(told, slices.Clone(e[:cap(e)]))
	}
	return told
}

func wholeBags(l []api.Bag) []api.Bag {
	var told []api.Bag
	for _, b := range l[:cap(l)] {
		b.Vars, b.Edges = slices.Clone(b.Vars[:cap(b.Vars)]), slices.Clone(b.Edges[:cap(b.Edges)])
		told = append(told, b)
	}
	return told
}

func decomposed(t *testing.T, edges [][]string, width, seed int) []api.Bag {
	t.Helper()
	l, err := Decompose(edges, width, seed)
	if err != api.OK || !modelCheck(edges, l, width) {
		t.Fatalf("%s in %d by %d: %s, %d", showGraph(edges), width, seed, show(l), err)
	}
	return l
}

// TestHandedInIsLeft: P16.5 (R2): nothing that is handed in is changed, and nothing behind its lists is read or written.
func TestHandedInIsLeft(t *testing.T) {
	for _, edges := range many() {
		kept := loose(edges)
		before := whole(kept)
		for seed := range 20 {
			if got, want := decomposed(t, kept, 3, seed), decomposed(t, edges, 3, seed); show(got) != show(want) {
				t.Errorf("%s, not %s", show(got), show(want))
			}
		}
		if width(t, kept) != width(t, edges) || acyclic(t, kept) != acyclic(t, edges) {
			t.Errorf("%s: another answer", showGraph(edges))
		}
		l := looseBags(decomposed(t, edges, 3, 0))
		all := wholeBags(l)
		if !Check(kept, l, 3) {
			t.Errorf("%s: %s", showGraph(edges), show(l))
		}
		if !reflect.DeepEqual(whole(kept), before) || !reflect.DeepEqual(wholeBags(l), all) {
			t.Errorf("%s: what was handed in is changed", showGraph(edges))
		}
	}
	if Check(graph("a b, b c"), bags("-1:a b:0; 0:b c:1")[:1], 1) || Check(nil, bags("-1::")[:0], 1) {
		t.Error("bags behind the list are read")
	}
}

// TestEmptyLists: P16.5 (R2): nil and empty lists are one.
func TestEmptyLists(t *testing.T) {
	for _, edges := range [][][]string{nil, {}, {nil}, {{}}, {{}, nil}} {
		for _, l := range [][]api.Bag{{{Parent: -1}}, {{Parent: -1, Vars: []string{}, Edges: []int{}}}} {
			if !Check(edges, l, 1) {
				t.Errorf("%#v, %#v", edges, l)
			}
		}
		if Check(edges, nil, 1) || Check(edges, []api.Bag{}, 1) {
			t.Errorf("%#v has a decomposition without bags", edges)
		}
		if width(t, edges) != 0 || !acyclic(t, edges) || show(decomposed(t, edges, 1, 5)) != "-1::" {
			t.Errorf("%#v", edges)
		}
	}
}

type stretch struct{ from, to uintptr }

func (s stretch) meets(other stretch) bool { return s.from < other.to && other.from < s.to }

// textStretch tells where a text lies; one of a byte lies nowhere, as Go keeps these once.
func textStretch(s string) stretch {
	from := uintptr(unsafe.Pointer(unsafe.StringData(s)))
	if len(s) < 2 {
		return stretch{}
	}
	return stretch{from, from + uintptr(len(s))}
}

func listStretch[T any](l []T) stretch {
	from := uintptr(unsafe.Pointer(unsafe.SliceData(l)))
	var one T
	return stretch{from, from + uintptr(cap(l))*unsafe.Sizeof(one)}
}

// stretches tells where the lists of l lie, with what is behind their lengths, and where its texts do.
func stretches(l []api.Bag) (lists, texts []stretch) {
	lists = append(lists, listStretch(l))
	for _, b := range l {
		lists = append(lists, listStretch(b.Vars), listStretch(b.Edges))
		for _, v := range b.Vars {
			texts = append(texts, textStretch(v))
		}
	}
	return lists, texts
}

// TestToldIsNew: P16.5 (R2): no two lists that are told share memory, and none shares any with what was handed in, no text either.
func TestToldIsNew(t *testing.T) {
	for _, edges := range many() {
		edges = loose(edges)
		var lent []stretch
		for _, e := range edges {
			for _, v := range e {
				lent = append(lent, textStretch(v))
			}
		}
		for seed := range 20 {
			told, again := decomposed(t, edges, 3, seed), decomposed(t, edges, 3, seed)
			lists, texts := stretches(told)
			others, _ := stretches(again)
			for i, s := range lists {
				if slices.ContainsFunc(append(lists[i+1:], others...), s.meets) {
					t.Fatalf("%s by %d: lists share memory", showGraph(edges), seed)
				}
			}
			for _, s := range texts {
				if slices.ContainsFunc(lent, s.meets) {
					t.Fatalf("%s by %d: a text lies where it was handed in", showGraph(edges), seed)
				}
			}
			runtime.KeepAlive(told)
			runtime.KeepAlive(again)
		}
		runtime.KeepAlive(edges)
	}
}

// spoil writes over all that stands in bags, and lays something behind each list.
func spoil(l []api.Bag) {
	for i, b := range l {
		for j := range b.Vars {
			b.Vars[j] = "spoilt"
		}
		for j := range b.Edges {
			b.Edges[j] = -7
		}
		_, _ = append(b.Vars, "spoilt"), append(b.Edges, -7)
		l[i] = api.Bag{Parent: -7}
	}
}

// TestWrittenOver: P16.5 (R2): what is told is the caller's own, and nothing that is handed in is kept.
func TestWrittenOver(t *testing.T) {
	for _, edges := range many() {
		for seed := range 20 {
			want := show(decomposed(t, edges, 3, seed))
			spoil(decomposed(t, edges, 3, seed))
			if got := show(decomposed(t, edges, 3, seed)); got != want {
				t.Errorf("%s, not %s", got, want)
			}
			kept := loose(edges)
			told := decomposed(t, kept, 3, seed)
			for _, e := range kept {
				for j := range e {
					e[j] = "spoilt"
				}
			}
			if show(told) != want {
				t.Errorf("%s, not %s", show(told), want)
			}
		}
	}
}

// TestLentTexts: P16.5 (R2): texts are not kept in the memory in which they are handed in.
func TestLentTexts(t *testing.T) {
	for _, edges := range many() {
		var all [][]byte
		lent := make([][]string, len(edges))
		for i, e := range edges {
			for _, v := range e {
				b := []byte(v)
				all, lent[i] = append(all, b), append(lent[i], unsafe.String(&b[0], len(b)))
			}
		}
		want := show(decomposed(t, edges, 3, 1))
		told := decomposed(t, lent, 3, 1)
		for _, b := range all {
			clear(b)
		}
		if show(told) != want {
			t.Errorf("%q, not %q", show(told), want)
		}
	}
}

// TestEnds: P16.5 (R3): whatever is handed in.
func TestEnds(t *testing.T) {
	great := strings.Repeat("n", 1<<22)
	for _, edges := range [][][]string{
		make([][]string, 1<<20), slices.Repeat([][]string{{"a", "b"}}, 1<<20), {slices.Repeat([]string{"a"}, 1<<20)}, {names(1000)}, {{great}}, {{"a"}, slices.Repeat([]string{great}, 100)}, {{"\x00\xff"}},
	} {
		n, err := Width(edges)
		is, bad := Acyclic(edges)
		l, worse := Decompose(edges, math.MaxInt, math.MinInt)
		if n != 0 || err != api.ErrArg || is || bad != api.ErrArg || l != nil || worse != api.ErrArg || Check(edges, bags("-1::"), 1) {
			t.Errorf("%s: %d, %d; %t, %d; %s, %d", showGraph(edges), n, err, is, bad, show(l), worse)
		}
	}
	two := graph("a b, b c")
	for i, l := range [][]api.Bag{
		{{Parent: -1, Vars: slices.Repeat([]string{"a", "b"}, 1<<20), Edges: []int{0}}}, {{Parent: -1, Vars: []string{"a", "b"}, Edges: slices.Repeat([]int{0, 1}, 1<<20)}}, {{Parent: -1, Vars: []string{great}, Edges: []int{0, 1}}}, {{Parent: -1, Edges: []int{math.MinInt, math.MaxInt}}}, {{Parent: math.MinInt}}, {{Parent: math.MaxInt}, {Parent: math.MaxInt}}, make([]api.Bag, 1<<20),
	} {
		for _, n := range []int{math.MinInt, 0, 1, 2, math.MaxInt} {
			if Check(two, l, n) {
				t.Errorf("%d in %d", i, n)
			}
		}
	}
}

// TestManyBags: P16.1, P16.5 (R3): a decomposition may have as many bags as one likes, and be as tall.
func TestManyBags(t *testing.T) {
	l := bags("-1:a b:0; 0:b c:1")
	for i := range 1 << 18 {
		l = append(l, api.Bag{Vars: []string{"b", "c"}, Edges: []int{1}, Parent: i + 1})
	}
	if !Check(graph("a b, b c"), l, 1) {
		t.Error("many bags")
	}
	l[1<<17].Vars = []string{"c"}
	if Check(graph("a b, b c"), l, 1) {
		t.Error("many bags, one without b")
	}
}

// TestAskedAtOnce: P16.5 (R6): many may ask at once.
func TestAskedAtOnce(t *testing.T) {
	var all sync.WaitGroup
	for _, edges := range many() {
		n, want := width(t, edges), show(decomposed(t, edges, 3, 9))
		for range 4 {
			all.Go(func() {
				l, _ := Decompose(edges, 3, 9)
				got, _ := Width(edges)
				is, _ := Acyclic(edges)
				if show(l) != want || got != n || is != (n <= 1) || !Check(edges, l, 3) {
					t.Errorf("%s: %s, %d, %t", showGraph(edges), show(l), got, is)
				}
			})
		}
	}
	all.Wait()
}

// TestNothingIsKept: P16.5 (R6): an answer hangs on what is handed in alone.
func TestNothingIsKept(t *testing.T) {
	var first []string
	for _, edges := range many() {
		first = append(first, show(decomposed(t, edges, 3, 3)))
	}
	for i, edges := range slices.Backward(many()) {
		if _, err := Decompose(edges, 0, 3); err != api.ErrArg {
			t.Errorf("%d", err)
		}
		for seed := range 4 {
			decomposed(t, edges, 4, seed)
		}
		if got := show(decomposed(t, edges, 3, 3)); got != first[i] {
			t.Errorf("%s, then %s", first[i], got)
		}
	}
}

// TestFace: the face stands as it is given.
func TestFace(t *testing.T) {
	var _ func([][]string, []api.Bag, int) bool = Check
	var _ func([][]string, int, int) ([]api.Bag, api.Errno) = Decompose
	var _ func([][]string) (int, api.Errno) = Width
	var _ func([][]string) (bool, api.Errno) = Acyclic
}
