package logic

import (
	"errors"
	"math"
	"reflect"
	"slices"
	"strings"
	"testing"

	"diptych/api"
	"diptych/value"
)

const (
	no      = api.False
	yes     = api.True
	unknown = api.Unknown
)

var (
	three    = []int{no, yes, unknown}
	strange  = []int{-1, 3, 4, 5, 1 << 8, 1<<32 + 1, math.MinInt, math.MaxInt, -1 << 32, math.MinInt + 1}
	someInts = append(slices.Clone(three), strange...)
	langs    = []int{api.LangC, api.LangS, -1, 2, 3, 1<<32 + 1, math.MinInt, math.MaxInt}
)

// asTruth tells the truth value that a number stands for, without the package's help.
func asTruth(a int) int {
	if a == no || a == yes {
		return a
	}
	return unknown
}

// TestNot: P3.1.
func TestNot(t *testing.T) {
	for a, want := range map[int]int{no: yes, yes: no, unknown: unknown} {
		if got := Not(a); got != want {
			t.Errorf("Not(%d): %d; want %d", a, got, want)
		}
	}
	for _, a := range strange {
		if got := Not(a); got != unknown {
			t.Errorf("Not(%d): %d", a, got)
		}
	}
}

type pair struct{ a, b int }

// TestTables: P3.1: all pairs of truth values, as they are written out here.
func TestTables(t *testing.T) {
	for p, want := range map[pair]struct{ and, or, xor int }{
		{no, no}: {no, no, no}, {no, yes}: {no, yes, yes}, {no, unknown}: {no, unknown, unknown},
		{yes, no}: {no, yes, yes}, {yes, yes}: {yes, yes, no}, {yes, unknown}: {unknown, yes, unknown},
		{unknown, no}: {no, unknown, unknown}, {unknown, yes}: {unknown, yes, unknown}, {unknown, unknown}: {unknown, unknown, unknown},
	} {
		if and, or, xor := And(p.a, p.b), Or(p.a, p.b), Xor(p.a, p.b); and != want.and || or != want.or || xor != want.xor {
			t.Errorf("And, Or, Xor(%d, %d): %d, %d, %d; want %v", p.a, p.b, and, or, xor, want)
		}
	}
}

// TestStrange: P3.1: a number that is no truth value is Unknown.
func TestStrange(t *testing.T) {
	for _, a := range someInts {
		for _, b := range someInts {
			x, y := asTruth(a), asTruth(b)
			if And(a, b) != And(x, y) || Or(a, b) != Or(x, y) || Xor(a, b) != Xor(x, y) {
				t.Errorf("And, Or, Xor(%d, %d): %d, %d, %d; want as of %d, %d", a, b, And(a, b), Or(a, b), Xor(a, b), x, y)
			}
		}
	}
}

func list(l ...api.Value) api.Value {
	return api.Value{Kind: api.KList, List: l}
}

func nested(v api.Value, lists int) api.Value {
	for range lists {
		v = list(v)
	}
	return v
}

var (
	nines = strings.Repeat("9", api.MaxDigits)
	tiny  = "0." + strings.Repeat("0", api.MaxScale-1) + "1"
)

type condition struct {
	v          api.Value
	c, s       int
	cErr, sErr api.Errno
}

// conditions tells values, and what they say in both languages.
func conditions() []condition {
	l := []condition{
		{api.Value{}, unknown, unknown, api.OK, api.ErrUnbound},
		{api.Value{Kind: api.KBool}, no, no, api.OK, api.OK},
		{api.Value{Kind: api.KBool, Bool: true}, yes, yes, api.OK, api.OK},
	}
	for _, n := range []int64{0, 1, -1, 2, 1 << 32, math.MinInt64, math.MaxInt64} {
		l = append(l, onlyInS(api.Value{Kind: api.KInt, Int: n}, n != 0))
	}
	for _, s := range []string{"0.0", "0.5", "-0.5", "1.0", "10.0", tiny, "-" + tiny, nines + ".0", "-" + nines + "." + nines[:api.MaxScale]} {
		l = append(l, onlyInS(api.Value{Kind: api.KDec, Text: s}, s != "0.0"))
	}
	for _, s := range []string{"", "a", "\x00", " ", "0", "0.0", "false", "null", "\xff", strings.Repeat("x", api.MaxText)} {
		l = append(l, onlyInS(api.Value{Kind: api.KText, Text: s}, s != ""))
	}
	for _, v := range []api.Value{
		list(), list(api.Value{Kind: api.KBool, Bool: true}), list(api.Value{}), nested(api.Value{}, api.MaxDeep),
		{Kind: api.KNode}, {Kind: api.KNode, Int: 1}, {Kind: api.KEdge}, {Kind: api.KEdge, Int: 1},
		{Kind: api.KIri, Text: "a"}, {Kind: api.KBlank, Text: "a"}, {Kind: api.KLit, Extra: "en"}, {Kind: api.KLit, Text: "true", Extra: "boolean"},
	} {
		l = append(l, condition{v, no, unknown, api.ErrType, api.ErrType})
	}
	for _, v := range barred() {
		l = append(l, condition{v, no, unknown, api.ErrArg, api.ErrArg})
	}
	return l
}

func onlyInS(v api.Value, holds bool) condition {
	if holds {
		return condition{v, no, yes, api.ErrType, api.OK}
	}
	return condition{v, no, no, api.ErrType, api.OK}
}

// barred tells values that may not be, of each kind.
func barred() []api.Value {
	one := []api.Value{{Kind: api.KInt, Int: 1}}
	return []api.Value{
		{Bool: true}, {Int: 1}, {Text: "a"}, {Extra: "a"}, {List: one},
		{Kind: api.KBool, Bool: true, Int: 1}, {Kind: api.KBool, Text: "true"}, {Kind: api.KBool, Extra: "a"}, {Kind: api.KBool, Bool: true, List: one},
		{Kind: api.KInt, Int: 1, Bool: true}, {Kind: api.KInt, Text: "1"}, {Kind: api.KInt, Int: 1, List: one},
		{Kind: api.KDec}, {Kind: api.KDec, Text: "1"}, {Kind: api.KDec, Text: "-0.0"}, {Kind: api.KDec, Text: "0"}, {Kind: api.KDec, Text: "1.50"}, {Kind: api.KDec, Text: "1.0", Int: 1}, {Kind: api.KDec, Text: "1" + nines + ".0"},
		{Kind: api.KText, Text: strings.Repeat("x", api.MaxText+1)}, {Kind: api.KText, Text: "a", Extra: "en"}, {Kind: api.KText, Bool: true},
		list(api.Value{Kind: -1}), nested(list(), api.MaxDeep), list(make([]api.Value, api.MaxParts+1)...), {Kind: api.KList, Bool: true},
		{Kind: api.KNode, Int: -1}, {Kind: api.KEdge, Int: math.MinInt64}, {Kind: api.KIri}, {Kind: api.KIri, Text: "a b"}, {Kind: api.KBlank, Text: "1"}, {Kind: api.KLit, Text: "a"},
		{Kind: -1}, {Kind: 11}, {Kind: 11, Bool: true}, {Kind: math.MinInt}, {Kind: math.MaxInt, Text: "a"},
	}
}

// TestOf: P3.2.
func TestOf(t *testing.T) {
	for _, c := range conditions() {
		for _, lang := range langs {
			want, wantErr := c.c, c.cErr
			if lang == api.LangS {
				want, wantErr = c.s, c.sErr
			}
			if got, err := Of(lang, c.v); got != want || err != wantErr {
				t.Errorf("Of(%d, %.100v): %d, %d; want %d, %d", lang, c.v, got, err, want, wantErr)
			}
		}
	}
}

// TestBack: P3.2.
func TestBack(t *testing.T) {
	for a, want := range map[int]api.Value{no: {Kind: api.KBool}, yes: {Kind: api.KBool, Bool: true}, unknown: {Kind: api.KNull}} {
		got, err := Back(a)
		if !reflect.DeepEqual(got, want) || err != api.OK {
			t.Errorf("Back(%d): %v, %d; want %v", a, got, err, want)
		}
		if again, err := Of(api.LangC, got); again != a || err != api.OK {
			t.Errorf("Of Back(%d): %d, %d", a, again, err)
		}
	}
	for _, a := range strange {
		if got, err := Back(a); !reflect.DeepEqual(got, api.Value{}) || err != api.ErrArg {
			t.Errorf("Back(%d): %v, %d", a, got, err)
		}
	}
}

// asked is a sequence of l that counts how many it was asked for.
type asked struct {
	l     []int
	count int
}

func (s *asked) yield(yield func(int) bool) {
	for _, a := range s.l {
		s.count++
		if !yield(a) {
			return
		}
	}
}

// eachSequence calls do with all lists of those parts up to a length.
func eachSequence(parts []int, length int, do func(l []int)) {
	var grow func(l []int)
	grow = func(l []int) {
		do(l)
		if len(l) == length {
			return
		}
		for _, a := range parts {
			grow(append(slices.Clone(l), a))
		}
	}
	grow(nil)
}

// holdsWithin tells what All (settled: False) or Any (settled: True) must tell of l, and how many it must ask for.
func holdsWithin(l []int, settled int) (want, count int) {
	if i := slices.Index(l, settled); i >= 0 {
		return settled, i + 1
	}
	for _, a := range l {
		if asTruth(a) == unknown {
			return unknown, len(l)
		}
	}
	return yes - settled, len(l)
}

// TestSequences: P3.3.
func TestSequences(t *testing.T) {
	parts := []int{no, yes, unknown, -1, 3}
	eachSequence(parts, 5, func(l []int) {
		all, any := &asked{l: l}, &asked{l: l}
		want, count := holdsWithin(l, no)
		if got := All(all.yield); got != want || all.count != count {
			t.Fatalf("All(%v): %d, asked for %d; want %d, %d", l, got, all.count, want, count)
		}
		want, count = holdsWithin(l, yes)
		if got := Any(any.yield); got != want || any.count != count {
			t.Fatalf("Any(%v): %d, asked for %d; want %d, %d", l, got, any.count, want, count)
		}
	})
}

// TestNone: P3.3: a nil sequence yields none.
func TestNone(t *testing.T) {
	if got := All(nil); got != yes {
		t.Errorf("All(nil): %d", got)
	}
	if got := Any(nil); got != no {
		t.Errorf("Any(nil): %d", got)
	}
	none := func(func(int) bool) {}
	if all, any := All(none), Any(none); all != yes || any != no {
		t.Errorf("All, Any of none: %d, %d", all, any)
	}
}

// TestEndless: P3.3: a sequence without an end is left where it is settled.
func TestEndless(t *testing.T) {
	endless := func(until, then int) func(yield func(int) bool) {
		return func(yield func(int) bool) {
			for n := 0; ; n++ {
				a := until
				if n >= 1000 {
					a = then
				}
				if !yield(a) {
					return
				}
			}
		}
	}
	for _, until := range []int{yes, unknown} {
		if got := All(endless(until, no)); got != no {
			t.Errorf("All of many %d, then False: %d", until, got)
		}
	}
	for _, until := range []int{no, unknown} {
		if got := Any(endless(until, yes)); got != yes {
			t.Errorf("Any of many %d, then True: %d", until, got)
		}
	}
}

// broken tells a sequence that yields l, whatever yield says, and panics then.
func broken(l []int, with any) func(yield func(int) bool) {
	return func(yield func(int) bool) {
		for _, a := range l {
			yield(a)
		}
		panic(with)
	}
}

// stubborn tells a sequence that yields l whatever yield says, and whatever becomes of it.
func stubborn(l []int) func(yield func(int) bool) {
	return func(yield func(int) bool) {
		for _, a := range l {
			func() {
				defer func() { _ = recover() }()
				yield(a)
			}()
		}
	}
}

// TestBroken: P3.3, P3.5: R3: what a sequence has yielded counts, though it panics, or goes on where it was left.
func TestBroken(t *testing.T) {
	parts := []int{no, yes, unknown}
	eachSequence(parts, 4, func(l []int) {
		goesOn := func(yield func(int) bool) {
			for _, a := range l {
				yield(a)
			}
		}
		for i, seq := range []func(yield func(int) bool){goesOn, stubborn(l), broken(l, "broken"), broken(l, errors.New("broken")), broken(l, nil)} {
			all, _ := holdsWithin(l, no)
			any, _ := holdsWithin(l, yes)
			if gotAll, gotAny := All(seq), Any(seq); gotAll != all || gotAny != any {
				t.Fatalf("All, Any of %v, broken in way %d: %d, %d; want %d, %d", l, i, gotAll, gotAny, all, any)
			}
		}
	})
}

// TestWithin: P3.3: a sequence may itself ask All and Any.
func TestWithin(t *testing.T) {
	seq := func(yield func(int) bool) {
		_ = yield(All((&asked{l: []int{yes, unknown}}).yield)) && yield(Any((&asked{l: []int{no, yes}}).yield)) && yield(All(broken(nil, "broken")))
	}
	if all, any := All(seq), Any(seq); all != unknown || any != yes {
		t.Errorf("All, Any: %d, %d", all, any)
	}
}

// TestLaws: P3.4.
func TestLaws(t *testing.T) {
	for _, a := range three {
		if got := Not(Not(a)); got != a {
			t.Errorf("Not twice of %d: %d", a, got)
		}
		for _, b := range three {
			if Not(And(a, b)) != Or(Not(a), Not(b)) || Not(Or(a, b)) != And(Not(a), Not(b)) {
				t.Errorf("Not of And, of Or of %d, %d", a, b)
			}
			if And(a, b) != And(b, a) || Or(a, b) != Or(b, a) || Xor(a, b) != Xor(b, a) {
				t.Errorf("And, Or, Xor of %d, %d: in one order, and another", a, b)
			}
			if a != unknown && b != unknown && Xor(a, b) != Or(And(a, Not(b)), And(Not(a), b)) {
				t.Errorf("Xor of %d, %d by And, Or, Not", a, b)
			}
			for _, c := range three {
				if And(And(a, b), c) != And(a, And(b, c)) || Or(Or(a, b), c) != Or(a, Or(b, c)) {
					t.Errorf("And, Or of %d, %d, %d: in one grouping, and another", a, b, c)
				}
				if And(a, Or(b, c)) != Or(And(a, b), And(a, c)) || Or(a, And(b, c)) != And(Or(a, b), Or(a, c)) {
					t.Errorf("And, Or of %d, %d, %d: spread over each other", a, b, c)
				}
				if all, any := All(slices.Values([]int{a, b, c})), Any(slices.Values([]int{a, b, c})); all != And(a, And(b, c)) || any != Or(a, Or(b, c)) {
					t.Errorf("All, Any of %d, %d, %d: %d, %d", a, b, c, all, any)
				}
			}
		}
	}
}

// TestMemory: P3.5: R2: what is handed in stays as it is, and what lies behind a list's length is not read.
func TestMemory(t *testing.T) {
	whole := []api.Value{{Kind: api.KInt, Int: 1}, {Kind: api.KList, List: []api.Value{{}}}, {Kind: -1}}
	before := slices.Clone(whole)
	for _, lang := range langs {
		want := no
		if lang == api.LangS {
			want = unknown
		}
		if got, err := Of(lang, api.Value{Kind: api.KList, List: whole[:2]}); got != want || err != api.ErrType {
			t.Errorf("Of a list in %d: %d, %d", lang, got, err)
		}
	}
	if !slices.EqualFunc(whole, before, value.Same) {
		t.Error("Of wrote over a list")
	}
	l := []int{yes, unknown, 7, no}
	All(slices.Values(l[:3]))
	Any(slices.Values(l[1:]))
	if !slices.Equal(l, []int{yes, unknown, 7, no}) {
		t.Error("All or Any wrote over a list")
	}
}

// TestAtOnce: P3.5: R6: calls that run at once tell what they tell one by one.
func TestAtOnce(t *testing.T) {
	all := conditions()
	ask := func() []int {
		var l []int
		for _, c := range all {
			for _, lang := range langs {
				truth, err := Of(lang, c.v)
				l = append(l, truth, int(err))
			}
		}
		for _, a := range someInts {
			for _, b := range someInts {
				l = append(l, Not(a), And(a, b), Or(a, b), Xor(a, b), All(slices.Values([]int{a, b})), Any(broken([]int{a, b}, a)))
			}
		}
		return l
	}
	want := ask()
	answers := make(chan []int)
	for range 8 {
		go func() { answers <- ask() }()
	}
	for range 8 {
		if !slices.Equal(<-answers, want) {
			t.Error("at once the answers are others")
		}
	}
}
