package join

import (
	"slices"
	"strings"
	"testing"

	"diptych/api"
	"diptych/triples"
)

const people = "ann knows bob . bob knows cid . cid knows ann . ann knows ann . dan knows ann . ann age 3 . bob age 3.0 . cid age 3 . ann name 'Ann' . knows is knows . _b is T . bob is _b"

// TestTrie: P13.3: the rows of patterns over a store, under the order, sorted.
func TestTrie(t *testing.T) {
	for _, c := range []struct {
		what, l, order string
		want           api.Table
	}{
		{"no pattern", "", "", table("", "")},
		{"a triple that is there", "ann knows bob", "", table("", "")},
		{"a triple that is not", "bob knows ann", "", table("")},
		{"two triples, one of which is there", "ann knows bob . ann knows dan", "", table("")},
		{"what never is a triple", "_b is F", "", table("")},
		{"one variable", "ann knows ?x", "x", table("x", "ann", "bob")},
		{"ahead", "?x knows ann", "x", table("x", "ann", "cid", "dan")},
		{"between", "ann ?p ann", "p", table("p", "knows")},
		{"a value that is nowhere", "eve ?p ?o", "o p", table("o p")},
		{"a part that is nowhere below the first", "ann is ?o", "o", table("o")},
		{"two variables", "?x age ?y", "x y", table("x y", "ann 3", "bob 3.0", "cid 3")},
		{"the other way round", "?x age ?y", "y x", table("y x", "3.0 bob", "3 ann", "3 cid")},
		{"a 3 is no 3.0", "?x age 3", "x", table("x", "ann", "cid")},
		{"a path", "?x knows ?y . ?y knows ?z", "x y z", table("x y z", "ann ann ann", "ann ann bob", "ann bob cid", "bob cid ann", "cid ann ann", "cid ann bob", "dan ann ann", "dan ann bob")},
		{"a path, from its middle", "?x knows ?y . ?y knows ?z", "y z x", table("y z x", "ann ann ann", "ann ann cid", "ann ann dan", "ann bob ann", "ann bob cid", "ann bob dan", "bob cid ann", "cid ann bob")},
		{"a triangle", "?x knows ?y . ?y knows ?z . ?z knows ?x", "z y x", table("z y x", "ann ann ann", "ann cid bob", "bob ann cid", "cid bob ann")},
		{"a pattern twice", "?x age ?y . ?x age ?y", "x y", table("x y", "ann 3", "bob 3.0", "cid 3")},
		{"patterns that share nothing", "?x age 3 . ?y name ?z", "z x y", table("z x y", "'Ann' ann ann", "'Ann' cid ann")},
		{"no way for one of them", "?x age 3 . ?y none ?z", "x y z", table("x y z")},
		{"no way together", "?x age ?y . ?x is ?z . ?y is ?z", "x y z", table("x y z")},
		{"one at both ends", "?x knows ?x", "x", table("x", "ann")},
		{"one at both ends, and what it has", "?x knows ?x . ?x age ?y", "y x", table("y x", "3 ann")},
		{"one at both ends behind another", "?x ?p ?x", "p x", table("p x", "is knows", "knows ann")},
		{"one at both ends ahead of another", "?x ?p ?x", "x p", table("x p", "ann knows", "knows is")},
		{"a property of itself", "?x ?x ?y", "x y", table("x y")},
		{"a property that is named", "?x is ?x . ?y ?x ?z", "x z y", table("x z y", "knows ann ann", "knows ann cid", "knows ann dan", "knows bob ann", "knows cid bob")},
		{"blank nodes, truths, texts", "?x is ?y . ?y is ?z . ann name 'Ann'", "x y z", table("x y z", "bob _b T", "knows knows knows")},
		{"all", "?s ?p ?o", "p o s", table("p o s", "age 3.0 bob", "age 3 ann", "age 3 cid", "is _b bob", "is knows knows", "is T _b", "knows ann ann", "knows ann cid", "knows ann dan", "knows bob ann", "knows cid bob", "name 'Ann' ann")},
	} {
		s, order := store(t, facts(people)), strings.Fields(c.order)
		got, err := Trie(s, patterns(c.l), order, 100)
		if err != api.OK {
			t.Errorf("%s: %d", c.what, err)
		}
		want := sortedTable(c.want)
		is(t, c.what, got, want)
		if n := len(c.want.Rows); n > 0 {
			got, err = Trie(s, patterns(c.l), order, n)
			is(t, c.what+", with as many as may be", got, want)
			if told, less := Trie(s, patterns(c.l), order, n-1); err != api.OK || less != api.ErrBudget || !isZero(told) {
				t.Errorf("%s, with %d and one less: %d, %d", c.what, n, err, less)
			}
		} else if got, err = Trie(s, patterns(c.l), order, 0); err != api.OK || len(got.Rows) != 0 {
			t.Errorf("%s, with 0: %d", c.what, err)
		}
	}
}

// TestTrieOfOne: P13.3: one value in all three parts.
func TestTrieOfOne(t *testing.T) {
	s := store(t, facts("a a a . a a b . a b b . b a a . b b a . c c c . d d 1"))
	for _, c := range []struct {
		l, order string
		want     api.Table
	}{
		{"?x ?x ?x", "x", table("x", "a", "c")},
		{"?x ?x ?y", "y x", table("y x", "a a", "a b", "b a", "c c", "1 d")},
		{"?x ?y ?y", "x y", table("x y", "a a", "a b", "b a", "c c")},
		{"?x ?x ?x . ?y ?x ?z . ?z ?z ?z", "z x y", table("z x y", "a a a", "a a b", "c c c")},
		{"?x a ?x", "x", table("x", "a")},
		{"?x ?x 1", "x", table("x", "d")},
		{"?x ?x ?x . ?x ?x b", "x", table("x", "a")},
	} {
		got, err := Trie(s, patterns(c.l), strings.Fields(c.order), 9)
		if err != api.OK {
			t.Errorf("%s: %d", c.l, err)
		}
		is(t, c.l, got, sortedTable(c.want))
	}
}

// TestTrieRefuses: P13.3: ErrArg.
func TestTrieRefuses(t *testing.T) {
	s := store(t, facts(people))
	refused := func(what string, s *triples.Store, l []api.Pattern, order []string, most int) {
		t.Helper()
		if told, err := Trie(s, l, order, most); err != api.ErrArg || !isZero(told) {
			t.Errorf("%s: %s, %d; want ErrArg", what, short(show(told)), err)
		}
	}
	path := patterns("?x knows ?y . ?y knows ?z")
	refused("no store", nil, path, []string{"x", "y", "z"}, 9)
	refused("no store and no pattern", nil, nil, nil, 9)
	refused("fewer rows than none", s, path, []string{"x", "y", "z"}, -1)
	refused("fewer rows than none, of no pattern", s, nil, nil, -1)
	for _, order := range []string{"", "x y", "x y z z", "x y y", "x x y", "x y w", "x y z w", "x y Z", "z"} {
		refused("order "+order, s, path, strings.Fields(order), 9)
	}
	refused("an order of nothing", s, nil, []string{"x"}, 9)
	refused("an order of nothing", s, patterns("ann knows bob"), []string{""}, 9)
	x := api.Value{Text: "x"}
	for i, bad := range []api.Pattern{
		{S: num(1), P: iri("p"), O: x}, {S: text("t"), P: iri("p"), O: x}, {S: x, P: blank("b"), O: iri("a")}, {S: x, P: text("p"), O: iri("a")}, {S: x, P: iri("p"), O: list()}, {S: x, P: iri("p"), O: api.Value{Kind: api.KNode}},
		{S: x, P: iri("a b"), O: x}, {S: x, P: iri(""), O: x}, {S: x, P: iri("p"), O: dec("1")}, {S: x, P: iri("p"), O: api.Value{Kind: 99}}, {S: x, P: iri("p"), O: api.Value{Kind: api.KInt, Text: "x"}},
		{S: x, P: iri("p"), O: api.Value{Text: "x", Extra: "e"}}, {S: x, P: iri("p"), O: api.Value{Text: "x", Int: 1}}, {S: x, P: iri("p"), O: api.Value{Text: "x", List: []api.Value{none}}},
	} {
		if told, err := Trie(s, []api.Pattern{bad}, []string{"x"}, 9); err != api.ErrArg || !isZero(told) {
			t.Errorf("pattern %d: %s, %d", i, show(told), err)
		}
		refused("a bad pattern behind a good one", s, []api.Pattern{{S: x, P: iri("none"), O: x}, bad}, []string{"x"}, 9)
	}
	refused("a variable without a name", s, []api.Pattern{{S: x, P: iri("p")}}, []string{"x", ""}, 9)
	refused("a variable whose name is none", s, []api.Pattern{{S: x, P: iri("p"), O: api.Value{Text: "1"}}}, []string{"x", "1"}, 9)
}

// TestTrieMost: P13.3: as many patterns and variables as there may be, and one more.
func TestTrieMost(t *testing.T) {
	s := store(t, facts("a p a"))
	var l []api.Pattern
	order := names(api.MaxVars, "v")
	slices.Reverse(order)
	want := api.Table{Vars: order, Rows: [][]api.Value{slices.Repeat([]api.Value{iri("a")}, api.MaxVars)}}
	for _, name := range order {
		l = append(l, api.Pattern{S: api.Value{Text: name}, P: iri("p"), O: iri("a")})
	}
	got, err := Trie(s, l, order, 1)
	if err != api.OK {
		t.Errorf("as many variables as may be: %d", err)
	}
	is(t, "as many variables as may be", got, want)
	if told, err := Trie(s, append(l, l[0]), order, 1); err != api.ErrArg || !isZero(told) {
		t.Errorf("a pattern too many: %d", err)
	}
	l[0].O = api.Value{Text: "more"}
	if told, err := Trie(s, l, append(slices.Clone(order), "more"), 1); err != api.ErrArg || !isZero(told) {
		t.Errorf("a variable too many: %d", err)
	}
	l[0].O = l[1].S
	got, err = Trie(s, l, order, 1)
	if err != api.OK {
		t.Errorf("one that stands twice: %d", err)
	}
	is(t, "one that stands twice", got, want)
}

// TestTrieOfNothing: P13.3: over a store without triples.
func TestTrieOfNothing(t *testing.T) {
	s := store(t, nil)
	for l, order := range map[string]string{"?x ?y ?z": "z x y", "?x p ?z . ?y ?w ?w": "w x y z", "a p b": "", "?x ?y ?z . a p b": "x y z"} {
		got, err := Trie(s, patterns(l), strings.Fields(order), 0)
		if err != api.OK {
			t.Errorf("%s: %d", l, err)
		}
		is(t, l, got, table(order))
	}
	got, err := Trie(s, nil, nil, 1)
	if err != api.OK {
		t.Errorf("no pattern: %d", err)
	}
	is(t, "no pattern", got, table("", ""))
	if told, err := Trie(s, nil, nil, 0); err != api.ErrBudget || !isZero(told) {
		t.Errorf("no pattern and no row: %d", err)
	}
}

// TestTrieKeepsLittle: P13.3: of more rows than may be none is told, however many there would be.
func TestTrieKeepsLittle(t *testing.T) {
	var l []api.Triple
	for _, a := range names(200, "a") {
		l = append(l, api.Triple{S: iri(a), P: iri("p"), O: iri("o")})
	}
	s, many := store(t, l), patterns("?a p o . ?b p o . ?c p o . ?d p o . ?e p o . ?f p o . ?g p o . ?h p o")
	told, err := Trie(s, many, strings.Fields("h g f e d c b a"), 100000)
	if err != api.ErrBudget || !isZero(told) {
		t.Errorf("200 by 8: %d", err)
	}
}
