package value

import (
	"bytes"
	"cmp"
	"math"
	"math/big"
	"reflect"
	"runtime"
	"slices"
	"strings"
	"testing"
	"unsafe"

	"diptych/api"
)

func null0() api.Value               { return api.Value{} }
func bool0(b bool) api.Value         { return api.Value{Kind: api.KBool, Bool: b} }
func int0(n int64) api.Value         { return api.Value{Kind: api.KInt, Int: n} }
func dec0(s string) api.Value        { return api.Value{Kind: api.KDec, Text: s} }
func text0(s string) api.Value       { return api.Value{Kind: api.KText, Text: s} }
func node0(n int64) api.Value        { return api.Value{Kind: api.KNode, Int: n} }
func edge0(n int64) api.Value        { return api.Value{Kind: api.KEdge, Int: n} }
func iri0(s string) api.Value        { return api.Value{Kind: api.KIri, Text: s} }
func blank0(s string) api.Value      { return api.Value{Kind: api.KBlank, Text: s} }
func lit0(s, x string) api.Value     { return api.Value{Kind: api.KLit, Text: s, Extra: x} }
func list0(l ...api.Value) api.Value { return api.Value{Kind: api.KList, List: l} }

// nested tells v in so many lists.
func nested(v api.Value, lists int) api.Value {
	for range lists {
		v = list0(v)
	}
	return v
}

var (
	nines    = strings.Repeat("9", api.MaxDigits)
	tiny     = "0." + strings.Repeat("0", api.MaxScale-1) + "1"
	longest  = strings.Repeat("x", api.MaxText)
	langs    = []int{api.LangC, api.LangS, -1, 2, 1 << 40}
	manyInts = make([]api.Value, api.MaxParts)
)

func init() {
	for i := range manyInts {
		manyInts[i] = int0(int64(i))
	}
}

// inOrder tells values that may be, each ahead of the next in LangC.
func inOrder() []api.Value {
	return []api.Value{
		list0(), list0(list0()), list0(list0(), int0(1)), nested(null0(), api.MaxDeep), list0(node0(0)), list0(int0(1)), list0(int0(1), text0("a")), list0(int0(1), int0(0)), list0(int0(1), null0()), list0(dec0("1.0")), list0(int0(2)), list0(null0()), list0(null0(), null0()),
		node0(0), node0(7), node0(math.MaxInt64), edge0(0), edge0(1), edge0(math.MaxInt64),
		blank0("A1"), blank0("_"), blank0("a"), blank0("a1"), blank0("b"),
		iri0("!"), iri0("a"), iri0("a:b"), iri0("\x7f"), iri0("é"),
		lit0("", "en"), lit0("a", "en"), lit0("a", "xsd"), lit0("a b", "en"), lit0("b", "de"),
		text0(""), text0("\x00"), text0(" "), text0("1"), text0("a"), text0("a\x00"), text0("ab"), text0("b"), text0("\xff"),
		bool0(false), bool0(true),
		dec0("-" + nines + ".0"), int0(math.MinInt64), dec0("-9223372036854775808.0"), int0(math.MinInt64 + 1), int0(-2), dec0("-1.5"), int0(-1), dec0("-1.0"), dec0("-" + tiny), int0(0), dec0("0.0"), dec0(tiny), dec0("0.5"), int0(1), dec0("1.0"), int0(3), dec0("3.0"), dec0("3.1"), int0(10), int0(math.MaxInt64), dec0("9223372036854775807.0"), dec0("9223372036854775807.5"), dec0(nines + ".5"),
		null0(),
	}
}

// barred tells values that may not be.
func barred() []api.Value {
	return append(wrongWithin(), wrongBeside()...)
}

// wrongWithin tells values whose kinds, or the fields that these name, may not be.
func wrongWithin() []api.Value {
	return []api.Value{
		dec0(""), dec0("1"), dec0("-0.0"), dec0("1.50"), dec0("x"), dec0("1" + nines + ".0"), dec0("+1.0"),
		text0(longest + "x"), iri0(""), iri0(" "), iri0("a b"), iri0("a<"), iri0(">"), iri0("a\n"), iri0("\x00"), iri0(longest + "x"),
		blank0(""), blank0("1"), blank0("1a"), blank0("a-b"), blank0("é"), blank0(strings.Repeat("a", 65)), blank0("a "), blank0("@"), blank0("a["), blank0("`"), blank0("{"), blank0("a/"), blank0("a:"),
		lit0("a", ""), lit0("a", "a b"), lit0("a", "<"), lit0("a", ">b"), lit0("a", longest+"x"), lit0(longest+"x", "en"), lit0("", "\x1f"),
		node0(-1), edge0(-1), node0(math.MinInt64), edge0(math.MinInt64),
		list0(dec0("1")), list0(int0(1), node0(-1)), list0(append(manyInts[:api.MaxParts:api.MaxParts], null0())...), nested(null0(), api.MaxDeep+1), nested(list0(), api.MaxDeep), list0(list0(), nested(int0(1), api.MaxDeep)), list0(api.Value{Kind: 11}),
		{Kind: -1}, {Kind: 11}, {Kind: math.MaxInt}, {Kind: math.MinInt},
	}
}

// wrongBeside tells values of each kind with each of the fields that the kind doesn't name.
func wrongBeside() []api.Value {
	var l []api.Value
	for _, v := range []api.Value{null0(), bool0(true), int0(1), dec0("1.0"), text0("a"), list0(int0(1)), node0(1), edge0(1), iri0("a"), blank0("a"), lit0("a", "a")} {
		more := []api.Value{v, v, v, v, v}
		more[0].Bool, more[1].Int, more[2].Text, more[3].Extra, more[4].List = true, 1, cmp.Or(v.Text, "a"), "a", []api.Value{int0(1)}
		for _, w := range more {
			if !reflect.DeepEqual(v, w) {
				l = append(l, w)
			}
		}
	}
	return l
}

func all() []api.Value {
	return append(inOrder(), barred()...)
}

// TestCheck: P2.1.
func TestCheck(t *testing.T) {
	fits := append(inOrder(), text0(longest), iri0(longest), lit0(longest, longest), blank0(strings.Repeat("a", 64)), blank0("_9"), blank0("zZ_09"), list0(manyInts...), nested(list0(), api.MaxDeep-1), list0(nested(int0(1), api.MaxDeep-1), list0()), list0(list0(manyInts...), list0(manyInts...)), api.Value{Kind: api.KBool, List: []api.Value{}}, api.Value{Kind: api.KList, List: []api.Value{}})
	for _, v := range fits {
		if !Check(v) {
			t.Errorf("Check(%.100v): false", v)
		}
	}
	bad := barred()
	for _, v := range bad {
		if Check(v) {
			t.Errorf("Check(%.100v): true", v)
		}
		if Check(list0(int0(1), v)) {
			t.Errorf("Check of a list with %.100v: true", v)
		}
	}
}

// TestSame: P2.1.
func TestSame(t *testing.T) {
	one, other := all(), all()
	for i, a := range one {
		for j, b := range other {
			if Same(a, b) != (i == j) {
				t.Fatalf("Same(%.100v, %.100v): %t", a, b, i != j)
			}
		}
	}
	for _, c := range []struct {
		a, b api.Value
		want bool
	}{
		{api.Value{Kind: api.KInt, List: []api.Value{}}, int0(0), true},
		{api.Value{Kind: api.KList, List: []api.Value{}}, list0(), true},
		{list0(list0(int0(1)), text0("a")), list0(list0(int0(1)), text0("a")), true},
		{list0(list0(int0(1)), text0("a")), list0(list0(dec0("1.0")), text0("a")), false},
		{list0(int0(1)), list0(int0(1), int0(1)), false},
		{api.Value{Kind: 12}, api.Value{Kind: 13}, false},
		{api.Value{Kind: 12, Extra: "a"}, api.Value{Kind: 12, Extra: "a"}, true},
		{api.Value{Kind: 12, Extra: "a"}, api.Value{Kind: 12, Extra: "b"}, false},
		{nested(int0(1), 1<<15), nested(int0(1), 1<<15), true},
		{nested(int0(1), 1<<15), nested(int0(2), 1<<15), false},
	} {
		if Same(c.a, c.b) != c.want || Same(c.b, c.a) != c.want {
			t.Errorf("Same(%.100v, %.100v): %t", c.a.Text, c.b.Text, !c.want)
		}
	}
}

type truthCase struct {
	a, b api.Value
	want int
}

func eachTruth(t *testing.T, name string, call func(lang int, a, b api.Value) int, lang int, cases []truthCase) {
	t.Helper()
	for _, c := range cases {
		if got := call(lang, c.a, c.b); got != c.want {
			t.Errorf("%s(%d, %.100v, %.100v): %d; want %d", name, lang, c.a, c.b, got, c.want)
		}
	}
}

// turned tells the cases, and each of them the other way round.
func turned(l []truthCase) []truthCase {
	for _, c := range l {
		l = append(l, truthCase{c.b, c.a, c.want})
	}
	return l
}

// TestEqual: P2.2.
func TestEqual(t *testing.T) {
	both := turned([]truthCase{
		{null0(), null0(), api.Unknown}, {null0(), int0(1), api.Unknown}, {null0(), list0(), api.Unknown}, {null0(), lit0("a", "en"), api.Unknown},
		{int0(1), int0(1), api.True}, {int0(1), int0(2), api.False}, {int0(1), dec0("1.0"), api.True}, {int0(1), dec0("1.5"), api.False}, {dec0("1.5"), dec0("1.5"), api.True}, {dec0("1.5"), dec0("-1.5"), api.False}, {int0(math.MinInt64), dec0("-9223372036854775808.0"), api.True}, {int0(math.MaxInt64), dec0("9223372036854775808.0"), api.False},
		{text0("a"), text0("a"), api.True}, {text0("a"), text0("b"), api.False}, {text0("1"), int0(1), api.False}, {bool0(true), bool0(true), api.True}, {bool0(true), bool0(false), api.False}, {bool0(false), int0(0), api.False},
		{iri0("a"), iri0("a"), api.True}, {iri0("a"), iri0("b"), api.False}, {iri0("a"), text0("a"), api.False}, {blank0("a"), blank0("a"), api.True}, {blank0("a"), iri0("a"), api.False}, {blank0("a"), blank0("b"), api.False},
		{lit0("a", "en"), lit0("a", "en"), api.True}, {lit0("a", "en"), iri0("a"), api.False}, {lit0("a", "en"), blank0("a"), api.False},
	})
	onlyC := turned([]truthCase{
		{lit0("a", "en"), lit0("a", "de"), api.False}, {lit0("a", "en"), text0("a"), api.False}, {lit0("1", "int"), int0(1), api.False}, {lit0("1", "int"), dec0("1.0"), api.False}, {lit0("true", "b"), bool0(true), api.False},
		{node0(1), node0(1), api.True}, {node0(1), node0(2), api.False}, {node0(1), edge0(1), api.False}, {edge0(1), edge0(1), api.True}, {node0(1), int0(1), api.False},
		{list0(), list0(), api.True}, {list0(), list0(null0()), api.False}, {list0(int0(1), null0()), list0(int0(1), int0(2)), api.Unknown}, {list0(int0(1), null0()), list0(int0(2), null0()), api.False}, {list0(null0(), int0(1)), list0(null0(), int0(2)), api.False}, {list0(null0()), list0(null0()), api.Unknown}, {list0(int0(1), dec0("2.0")), list0(dec0("1.0"), int0(2)), api.True}, {list0(int0(1)), list0(int0(1), null0()), api.False}, {list0(list0(null0())), list0(list0(int0(1))), api.Unknown}, {list0(list0(null0())), list0(list0(int0(1), int0(1))), api.False}, {list0(list0(int0(1))), list0(list0(dec0("1.0"))), api.True}, {list0(), null0(), api.Unknown}, {list0(int0(1)), int0(1), api.False}, {nested(int0(1), api.MaxDeep), nested(dec0("1.0"), api.MaxDeep), api.True}, {list0(text0("a"), null0(), text0("b")), list0(text0("a"), null0(), text0("c")), api.False},
	})
	onlyS := turned([]truthCase{
		{lit0("a", "en"), lit0("a", "de"), api.Unknown}, {lit0("a", "en"), lit0("b", "en"), api.Unknown}, {lit0("a", "en"), text0("a"), api.Unknown}, {lit0("1", "int"), int0(1), api.Unknown}, {lit0("1", "int"), dec0("1.0"), api.Unknown}, {lit0("true", "b"), bool0(true), api.Unknown}, {lit0("a", "en"), list0(), api.Unknown},
		{node0(1), node0(1), api.Unknown}, {edge0(1), edge0(1), api.Unknown}, {list0(), list0(), api.Unknown}, {list0(int0(1)), int0(1), api.Unknown}, {node0(1), text0("a"), api.Unknown}, {edge0(1), iri0("a"), api.Unknown}, {list0(), bool0(true), api.Unknown}, {node0(1), blank0("a"), api.Unknown},
	})
	for _, lang := range langs {
		eachTruth(t, "Equal", Equal, lang, both)
		if lang == api.LangS {
			eachTruth(t, "Equal", Equal, lang, onlyS)
		} else {
			eachTruth(t, "Equal", Equal, lang, onlyC)
		}
		for _, bad := range barred() {
			eachTruth(t, "Equal", Equal, lang, turned([]truthCase{{bad, bad, api.Unknown}, {bad, int0(1), api.Unknown}, {bad, text0("a"), api.Unknown}, {bad, null0(), api.Unknown}, {list0(int0(1), bad), list0(int0(2), int0(2)), api.Unknown}}))
		}
	}
}

// TestLess: P2.3.
func TestLess(t *testing.T) {
	cases := []truthCase{
		{int0(1), int0(2), api.True}, {int0(2), int0(1), api.False}, {int0(1), int0(1), api.False}, {int0(-1), dec0("-0.5"), api.True}, {dec0("-0.5"), int0(-1), api.False}, {int0(1), dec0("1.0"), api.False}, {dec0("1.0"), int0(1), api.False}, {dec0("9.5"), dec0("10.5"), api.True}, {dec0("10.5"), dec0("9.5"), api.False}, {int0(math.MaxInt64), dec0("9223372036854775807.5"), api.True}, {int0(math.MinInt64), int0(math.MaxInt64), api.True},
		{text0("a"), text0("b"), api.True}, {text0("b"), text0("a"), api.False}, {text0("a"), text0("a"), api.False}, {text0("a"), text0("ab"), api.True}, {text0("Z"), text0("a"), api.True}, {text0("10"), text0("9"), api.True}, {text0("z"), text0("\xff"), api.True},
		{bool0(false), bool0(true), api.True}, {bool0(true), bool0(false), api.False}, {bool0(true), bool0(true), api.False}, {bool0(false), bool0(false), api.False},
	}
	values := inOrder()
	for _, lang := range langs {
		eachTruth(t, "Less", Less, lang, cases)
		for _, a := range values {
			for _, b := range values {
				comparable := a.Kind == b.Kind && (a.Kind == api.KText || a.Kind == api.KBool) || a.Kind == api.KInt && b.Kind == api.KDec || a.Kind == api.KDec && b.Kind == api.KInt || a.Kind == api.KInt && b.Kind == api.KInt || a.Kind == api.KDec && b.Kind == api.KDec
				if got := Less(lang, a, b); (got == api.Unknown) == comparable {
					t.Fatalf("Less(%d, %.100v, %.100v): %d", lang, a, b, got)
				}
			}
			for _, bad := range barred() {
				eachTruth(t, "Less", Less, lang, turned([]truthCase{{a, bad, api.Unknown}}))
			}
		}
	}
}

// TestOrder: P2.4: each value against each, by their places in the order.
func TestOrder(t *testing.T) {
	for _, lang := range langs {
		values := inOrder()
		if lang == api.LangS {
			values = inOrderOfS()
		}
		for i, a := range values {
			for j, b := range values {
				if got := Order(lang, a, b); got != cmp.Compare(i, j) {
					t.Fatalf("Order(%d, %.100v, %.100v): %d", lang, a, b, got)
				}
			}
		}
	}
}

// inOrderOfS tells the same values, each ahead of the next in LangS: none comes first, in lists too.
func inOrderOfS() []api.Value {
	lists := []api.Value{list0(), list0(null0()), list0(null0(), null0()), list0(list0()), list0(list0(), int0(1)), nested(null0(), api.MaxDeep), list0(node0(0)), list0(int0(1)), list0(int0(1), null0()), list0(int0(1), text0("a")), list0(int0(1), int0(0)), list0(dec0("1.0")), list0(int0(2))}
	others := inOrder()[len(lists):]
	return slices.Concat([]api.Value{null0()}, lists, others[:len(others)-1])
}

// TestOrderOfBarred: P2.4: values that may not be have their places, too.
func TestOrderOfBarred(t *testing.T) {
	number := func(text string) api.Value { return api.Value{Kind: api.KDec, Text: text} }
	kind := func(kind int, text, extra string) api.Value { return api.Value{Kind: kind, Text: text, Extra: extra} }
	rows := [][]api.Value{
		{node0(math.MinInt64), node0(-1), node0(0)},
		{edge0(-5), edge0(-1), edge0(3)},
		{dec0("-0.5"), int0(0), number(""), number("-0.0"), number("-1"), dec0("0.0"), number("1"), number("99999"), number("x"), int0(1), dec0("1.0")},
		{kind(api.KLit, "a", ""), kind(api.KLit, "a", "<"), kind(api.KLit, "b", ""), kind(api.KText, "", "a"), kind(api.KText, "", "b"), kind(api.KText, "a", "")},
		{list0(number("1")), list0(number("x")), list0(number("x"), node0(-1)), list0(number("x"), kind(11, "", ""))},
		{bool0(true), int0(5), kind(11, "", ""), kind(-1, "a", ""), kind(12, "a", "a"), kind(math.MinInt, "b", "")},
		{iri0(""), iri0(" "), iri0("<"), lit0("", "")},
		{nested(int0(1), 1<<15), nested(int0(2), 1<<15)},
	}
	for _, lang := range langs {
		for _, row := range rows {
			for i, a := range row {
				for j, b := range row {
					if got := Order(lang, a, b); got != cmp.Compare(i, j) {
						t.Fatalf("Order(%d, %.100v, %.100v): %d", lang, a.Text, b.Text, got)
					}
				}
			}
		}
		for _, same := range [][2]api.Value{{kind(11, "a", "b"), kind(-7, "a", "b")}, {api.Value{Kind: api.KInt, Int: 3, Text: "a"}, int0(3)}, {api.Value{Kind: api.KNode, Text: "b"}, node0(0)}, {kind(api.KDec, "x", "a"), kind(api.KDec, "x", "b")}, {api.Value{Kind: api.KBool, Int: 7}, bool0(false)}, {api.Value{Kind: api.KText, Int: 7, Text: "a"}, text0("a")}, {api.Value{Kind: api.KList, Text: "a"}, list0()}} {
			if Order(lang, same[0], same[1]) != 0 || Order(lang, same[1], same[0]) != 0 {
				t.Errorf("Order(%d, %v, %v) is not 0", lang, same[0], same[1])
			}
		}
		none, told := kind(api.KNull, "a", ""), Order(lang, kind(api.KNull, "a", ""), int0(1))
		if want := map[bool]int{true: -1, false: 1}[lang == api.LangS]; told != want || Order(lang, none, null0()) != 1 {
			t.Errorf("Order(%d) of a KNull that may not be: %d", lang, told)
		}
	}
}

// TestOrderIsOne: P2.8: Order turns with its arguments, goes on over a middle one, and Equal and Less go with it.
func TestOrderIsOne(t *testing.T) {
	values := all()
	for _, lang := range langs[:3] {
		for i, a := range values {
			for j, b := range values {
				way := Order(lang, a, b)
				if way != -Order(lang, b, a) {
					t.Fatalf("Order(%d, %.100v, %.100v) doesn't turn", lang, a, b)
				}
				if i != j && way == 0 && Check(a) && Check(b) {
					t.Fatalf("Order(%d, %.100v, %.100v): 0", lang, a, b)
				}
				if less := Less(lang, a, b); less == api.True && way != -1 || less == api.False && way == -1 && Equal(lang, a, b) != api.True {
					t.Fatalf("Less(%d, %.100v, %.100v): %d beside an order of %d", lang, a, b, less, way)
				}
				if (a.Kind == api.KText || a.Kind == api.KBool) && a.Kind == b.Kind && Check(a) && Check(b) && (Equal(lang, a, b) == api.True) != (way == 0) {
					t.Fatalf("Equal(%d, %.100v, %.100v) beside an order of %d", lang, a, b, way)
				}
				for k := range values {
					if c := values[k]; way <= 0 && Order(lang, b, c) <= 0 && Order(lang, a, c) > 0 {
						t.Fatalf("Order(%d) of %.100v, %.100v, %.100v turns back", lang, a, b, c)
					}
				}
			}
		}
	}
}

// TestEncode: P2.5.
func TestEncode(t *testing.T) {
	for _, c := range []struct {
		v    api.Value
		want string
	}{
		{null0(), "\x00"}, {bool0(false), "\x01\x00"}, {bool0(true), "\x01\x01"},
		{int0(0), "\x02\x00\x00\x00\x00\x00\x00\x00\x00"}, {int0(0x0102030405060708), "\x02\x01\x02\x03\x04\x05\x06\x07\x08"}, {int0(-2), "\x02\xff\xff\xff\xff\xff\xff\xff\xfe"}, {int0(math.MinInt64), "\x02\x80\x00\x00\x00\x00\x00\x00\x00"},
		{dec0("1.5"), "\x03\x00\x00\x00\x031.5"}, {text0(""), "\x04\x00\x00\x00\x00"}, {text0("\x00a"), "\x04\x00\x00\x00\x02\x00a"}, {text0(strings.Repeat("a", 0x1234)), "\x04\x00\x00\x12\x34" + strings.Repeat("a", 0x1234)}, {text0(longest), "\x04\x00\x10\x00\x00" + longest},
		{list0(), "\x05\x00\x00\x00\x00"}, {list0(null0(), list0(bool0(true)), text0("a")), "\x05\x00\x00\x00\x03\x00\x05\x00\x00\x00\x01\x01\x01\x04\x00\x00\x00\x01a"}, {list0(manyInts[:256]...), "\x05\x00\x00\x01\x00" + encoded(manyInts[:256])},
		{node0(258), "\x06\x00\x00\x00\x00\x00\x00\x01\x02"}, {edge0(3), "\x07\x00\x00\x00\x00\x00\x00\x00\x03"},
		{iri0("a:b"), "\x08\x00\x00\x00\x03a:b"}, {blank0("x"), "\x09\x00\x00\x00\x01x"}, {lit0("a", "en"), "\x0a\x00\x00\x00\x01a\x00\x00\x00\x02en"}, {lit0("", "e"), "\x0a\x00\x00\x00\x00\x00\x00\x00\x01e"},
	} {
		got, err := Encode(c.v)
		if string(got) != c.want || err != api.OK {
			t.Errorf("Encode(%.100v): %.100q, %d; want %.100q", c.v, got, err, c.want)
		}
		if v, err := Decode([]byte(c.want)); !Same(v, c.v) || err != api.OK {
			t.Errorf("Decode(%.100q): %.100v, %d; want %.100v", c.want, v, err, c.v)
		}
	}
	for _, v := range barred() {
		if got, err := Encode(v); len(got) != 0 || err != api.ErrArg {
			t.Errorf("Encode(%.100v): %.100q, %d", v, got, err)
		}
	}
	seen := map[string]bool{}
	for _, v := range append(inOrder(), list0(manyInts...), lit0(longest, longest)) {
		b, err := Encode(v)
		if again, errAgain := Decode(b); !Same(again, v) || err != api.OK || errAgain != api.OK || seen[string(b)] {
			t.Errorf("Decode of Encode(%.100v): %.100v, %d, %d; met before: %t", v, again, err, errAgain, seen[string(b)])
		}
		seen[string(b)] = true
	}
}

func encoded(l []api.Value) string {
	var b strings.Builder
	for _, v := range l {
		part, _ := Encode(v)
		b.Write(part)
	}
	return b.String()
}

// encodedRaw writes a value as Encode does, whether it may be or not.
func encodedRaw(v api.Value) string {
	count := func(n int) string { return string([]byte{byte(n >> 24), byte(n >> 16), byte(n >> 8), byte(n)}) }
	kind := string([]byte{byte(v.Kind)})
	switch v.Kind {
	case api.KBool:
		return kind + map[bool]string{true: "\x01", false: "\x00"}[v.Bool]
	case api.KInt, api.KNode, api.KEdge:
		return kind + count(int(uint64(v.Int)>>32)) + count(int(uint32(v.Int)))
	case api.KDec, api.KText, api.KIri, api.KBlank:
		return kind + count(len(v.Text)) + v.Text
	case api.KLit:
		return kind + count(len(v.Text)) + v.Text + count(len(v.Extra)) + v.Extra
	case api.KList:
		parts := ""
		for _, part := range v.List {
			parts += encodedRaw(part)
		}
		return kind + count(len(v.List)) + parts
	}
	return kind
}

// TestDecodeWrong: P2.5.
func TestDecodeWrong(t *testing.T) {
	wrong := []string{"", "\x01", "\x01\x02", "\x01\xff", "\x0b", "\xff", "\x0b\x00\x00\x00\x00", "\x00\x00", "\x04\xff\xff\xff\xff", "\x04\x80\x00\x00\x00", "\x05\xff\xff\xff\xff", "\x05\x00\x00\x10\x01" + strings.Repeat("\x00", 4097), "\x05\x00\x00\x10\x00", strings.Repeat("\x05\x00\x00\x00\x01", 1<<20), strings.Repeat("\x05\x00\x00\x10\x00", 1<<18), "\x0a\x00\x00\x00\x01a"}
	for _, v := range wrongWithin() {
		if v.Kind >= 0 && v.Kind < 256 {
			wrong = append(wrong, encodedRaw(v))
		}
	}
	for _, v := range inOrder() {
		b, _ := Encode(v)
		for n := range b {
			wrong = append(wrong, string(b[:n]))
		}
		wrong = append(wrong, string(b)+"\x00", string(b)+string(b), "\x00"+string(b))
	}
	for _, b := range wrong {
		if v, err := Decode([]byte(b)); !reflect.DeepEqual(v, api.Value{}) || err != api.ErrForm {
			t.Errorf("Decode(%.100q): %.100v, %d", b, v, err)
		}
	}
	if got, err := Decode(nil); !reflect.DeepEqual(got, api.Value{}) || err != api.ErrForm {
		t.Errorf("Decode(nil): %v, %d", got, err)
	}
}

// TestDecodeCaps: P2.5: caps are asked while a value grows, not behind it.
func TestDecodeCaps(t *testing.T) {
	for i, b := range []string{"\x05\x00\x40\x00\x00" + strings.Repeat("\x00", 1<<22), "\x04\x00\x40\x00\x00" + strings.Repeat("a", 1<<22), strings.Repeat("\x05\x00\x00\x00\x01", 1<<23)} {
		bytes := []byte(b)
		var before, behind runtime.MemStats
		runtime.ReadMemStats(&before)
		v, err := Decode(bytes)
		runtime.ReadMemStats(&behind)
		if !reflect.DeepEqual(v, api.Value{}) || err != api.ErrForm {
			t.Errorf("bytes %d: %.100v, %d", i, v, err)
		}
		if told := behind.TotalAlloc - before.TotalAlloc; told > 1<<20 {
			t.Errorf("bytes %d: %d bytes of memory for no value", i, told)
		}
	}
}

// TestDecodeChanged: P2.5: bytes in which one is changed are no value's, or another value's.
func TestDecodeChanged(t *testing.T) {
	for _, v := range inOrder() {
		b, _ := Encode(v)
		for i := range min(len(b), 40) {
			for change := 1; change < 256; change++ {
				changed := bytes.Clone(b)
				changed[i] ^= byte(change)
				other, err := Decode(changed)
				if err != api.OK {
					continue
				}
				if again, err := Encode(other); !bytes.Equal(again, changed) || err != api.OK {
					t.Fatalf("Decode(%q): %v, whose encoding is %q", changed, other, again)
				}
			}
		}
	}
}

// TestText: P2.6.
func TestText(t *testing.T) {
	for _, c := range []struct {
		v    api.Value
		want string
	}{
		{null0(), "null"}, {bool0(true), "true"}, {bool0(false), "false"}, {int0(0), "0"}, {int0(-12), "-12"}, {int0(math.MinInt64), "-9223372036854775808"}, {dec0("-1.5"), "-1.5"}, {text0(""), ""}, {text0("a\x00\xff"), "a\x00\xff"}, {iri0("a:b"), "<a:b>"}, {blank0("x"), "_:x"}, {lit0("a b", "en"), "a b"}, {node0(7), "(7)"}, {edge0(8), "[8]"},
		{list0(), "[]"}, {list0(int0(1)), "[1]"}, {list0(null0(), text0("a, b"), list0(), list0(node0(1), edge0(2)), lit0("c", "x"), iri0("d"), blank0("e"), bool0(true), dec0("0.5")), "[null, a, b, [], [(1), [2]], c, <d>, _:e, true, 0.5]"}, {nested(null0(), api.MaxDeep), strings.Repeat("[", api.MaxDeep) + "null" + strings.Repeat("]", api.MaxDeep)},
	} {
		if got := Text(c.v); got != c.want {
			t.Errorf("Text(%v): %q; want %q", c.v, got, c.want)
		}
	}
	for _, v := range barred() {
		if got := Text(v); got != "" {
			t.Errorf("Text(%.100v): %.100q", v, got)
		}
	}
}

type arithCase struct {
	op   int
	a, b api.Value
	want api.Value
	err  api.Errno
}

func eachArith(t *testing.T, lang int, cases []arithCase) {
	t.Helper()
	for _, c := range cases {
		if got, err := Arith(lang, c.op, c.a, c.b); !Same(got, c.want) || err != c.err {
			t.Errorf("Arith(%d, %d, %.100v, %.100v): %.100v, %d; want %.100v, %d", lang, c.op, c.a, c.b, got, err, c.want, c.err)
		}
	}
}

var ops = []int{api.EAdd, api.ESub, api.EMul, api.EDiv, api.EMod}

// TestArith: P2.7.
func TestArith(t *testing.T) {
	none := null0()
	both := []arithCase{
		{api.EAdd, int0(1), int0(2), int0(3), 0}, {api.ESub, int0(1), int0(2), int0(-1), 0}, {api.EMul, int0(-3), int0(2), int0(-6), 0},
		{api.EMod, int0(-7), int0(2), int0(-1), 0}, {api.EMod, int0(7), int0(-2), int0(1), 0}, {api.EMod, int0(7), int0(0), none, api.ErrZero}, {api.EMod, int0(math.MinInt64), int0(-1), int0(0), 0}, {api.EMod, int0(0), int0(0), none, api.ErrZero},
		{api.EDiv, int0(7), int0(0), none, api.ErrZero}, {api.EDiv, int0(7), dec0("0.0"), none, api.ErrZero}, {api.EDiv, dec0("7.5"), int0(0), none, api.ErrZero}, {api.EDiv, dec0("7.5"), dec0("0.0"), none, api.ErrZero},
		{api.EMod, int0(7), dec0("2.0"), none, api.ErrType}, {api.EMod, dec0("7.0"), int0(2), none, api.ErrType}, {api.EMod, dec0("7.0"), int0(0), none, api.ErrType}, {api.EMod, dec0("7.0"), dec0("0.0"), none, api.ErrType}, {api.EMod, int0(0), dec0("0.0"), none, api.ErrType},
		{api.EAdd, int0(1), dec0("0.5"), dec0("1.5"), 0}, {api.ESub, dec0("0.5"), int0(1), dec0("-0.5"), 0}, {api.EMul, dec0("0.5"), int0(2), dec0("1.0"), 0}, {api.EDiv, int0(-7), dec0("2.0"), dec0("-3.5"), 0}, {api.EDiv, dec0("-2.0"), int0(3), dec0("-0.66666666666666666666"), 0}, {api.EAdd, dec0("0.1"), dec0("0.2"), dec0("0.3"), 0},
		{api.EMul, dec0(tiny), dec0("0.5"), none, api.ErrOverflow}, {api.EAdd, dec0(nines + ".0"), int0(1), none, api.ErrOverflow}, {api.EDiv, dec0(nines + ".0"), dec0("0.1"), none, api.ErrOverflow}, {api.ESub, int0(math.MinInt64), dec0("1.0"), dec0("-9223372036854775809.0"), 0},
		{api.ESub, text0("a"), text0("b"), none, api.ErrType}, {api.EMul, list0(), list0(), none, api.ErrType}, {api.EAdd, text0("a"), int0(1), none, api.ErrType}, {api.EAdd, int0(1), text0("a"), none, api.ErrType}, {api.EAdd, list0(), int0(1), none, api.ErrType}, {api.EAdd, text0("a"), list0(), none, api.ErrType}, {api.EAdd, bool0(true), int0(1), none, api.ErrType}, {api.EAdd, node0(1), node0(1), none, api.ErrType}, {api.EDiv, text0("a"), int0(0), none, api.ErrType}, {api.EMod, text0("a"), dec0("1.0"), none, api.ErrType}, {api.EAdd, lit0("1", "int"), int0(1), none, api.ErrType}, {api.EAdd, iri0("a"), iri0("b"), none, api.ErrType}, {api.EDiv, int0(1), edge0(0), none, api.ErrType}, {api.EAdd, blank0("a"), dec0("1.0"), none, api.ErrType},
	}
	onlyC := []arithCase{
		{api.EDiv, int0(-7), int0(2), int0(-3), 0}, {api.EDiv, int0(7), int0(-2), int0(-3), 0}, {api.EDiv, int0(6), int0(2), int0(3), 0}, {api.EDiv, int0(math.MinInt64), int0(-1), none, api.ErrOverflow}, {api.EDiv, int0(math.MinInt64), int0(1), int0(math.MinInt64), 0}, {api.EDiv, int0(math.MaxInt64), int0(-1), int0(-math.MaxInt64), 0},
		{api.EAdd, text0("a"), text0("b"), text0("ab"), 0}, {api.EAdd, text0(""), text0(""), text0(""), 0}, {api.EAdd, text0(longest[1:]), text0("x"), text0(longest), 0}, {api.EAdd, text0(longest), text0("x"), none, api.ErrOverflow}, {api.EAdd, text0("x"), text0(longest), none, api.ErrOverflow}, {api.EAdd, text0(longest), text0(""), text0(longest), 0},
		{api.EAdd, list0(), list0(), list0(), 0}, {api.EAdd, list0(int0(1), null0()), list0(list0(text0("a"))), list0(int0(1), null0(), list0(text0("a"))), 0}, {api.EAdd, list0(manyInts[:1]...), list0(manyInts[1:]...), list0(manyInts...), 0}, {api.EAdd, list0(manyInts...), list0(null0()), none, api.ErrOverflow}, {api.EAdd, list0(null0()), list0(manyInts...), none, api.ErrOverflow}, {api.EAdd, list0(manyInts...), list0(), list0(manyInts...), 0}, {api.EAdd, nested(int0(1), api.MaxDeep), list0(), nested(int0(1), api.MaxDeep), 0},
	}
	onlyS := []arithCase{
		{api.EDiv, int0(-7), int0(2), dec0("-3.5"), 0}, {api.EDiv, int0(6), int0(2), dec0("3.0"), 0}, {api.EDiv, int0(2), int0(-3), dec0("-0.66666666666666666666"), 0}, {api.EDiv, int0(math.MinInt64), int0(-1), dec0("9223372036854775808.0"), 0},
		{api.EAdd, text0("a"), text0("b"), none, api.ErrType}, {api.EAdd, list0(), list0(), none, api.ErrType},
	}
	for _, lang := range langs {
		eachArith(t, lang, both)
		noneErr := api.OK
		if lang == api.LangS {
			noneErr = api.ErrUnbound
			eachArith(t, lang, onlyS)
		} else {
			eachArith(t, lang, onlyC)
		}
		for _, op := range ops {
			for _, v := range inOrder() {
				eachArith(t, lang, []arithCase{{op, none, v, none, noneErr}, {op, v, none, none, noneErr}})
			}
			for _, bad := range barred() {
				eachArith(t, lang, []arithCase{{op, bad, none, none, api.ErrArg}, {op, none, bad, none, api.ErrArg}, {op, int0(1), bad, none, api.ErrArg}, {op, bad, int0(0), none, api.ErrArg}, {op, bad, bad, none, api.ErrArg}})
			}
		}
		for _, op := range []int{0, -1, api.EAdd - 1, api.EMod + 1, api.ENeg, api.EAgg, 1 << 40} {
			eachArith(t, lang, []arithCase{{op, int0(1), int0(2), none, api.ErrArg}, {op, none, none, none, api.ErrArg}, {op, text0("a"), int0(0), none, api.ErrArg}})
		}
	}
}

// TestInts: P2.7, R1: whole numbers at the edges, held against numbers without edges.
func TestInts(t *testing.T) {
	var edges []int64
	for _, n := range []int64{0, 1, 2, 3, 7, 10, 1 << 31, 1 << 32, 3037000499, 3037000500, 1 << 62, math.MaxInt64 / 2, math.MaxInt64 - 1, math.MaxInt64} {
		edges = append(edges, n, -n, -n-1)
	}
	for _, a := range edges {
		for _, b := range edges {
			x, y := big.NewInt(a), big.NewInt(b)
			want := map[int]*big.Int{api.EAdd: new(big.Int).Add(x, y), api.ESub: new(big.Int).Sub(x, y), api.EMul: new(big.Int).Mul(x, y)}
			if b != 0 {
				want[api.EDiv], want[api.EMod] = new(big.Int).Quo(x, y), new(big.Int).Rem(x, y)
			}
			for op, n := range want {
				c := arithCase{op, int0(a), int0(b), null0(), api.ErrOverflow}
				if n.IsInt64() {
					c.want, c.err = int0(n.Int64()), api.OK
				}
				eachArith(t, api.LangC, []arithCase{c})
			}
		}
	}
}

// touch writes over all that hangs on l, and what lies behind its length.
func touch(l []api.Value) {
	l = l[:cap(l)]
	for i := range l {
		touch(l[i].List)
		l[i] = api.Value{Kind: -5, Text: "touched"}
	}
}

// TestMemory: P2.9: R2.
func TestMemory(t *testing.T) {
	fresh := func() api.Value { return list0(int0(1), list0(text0("abc"), list0(null0())), list0()) }
	for _, other := range []api.Value{list0(), list0(list0(int0(5)))} {
		for _, turn := range []bool{false, true} {
			a := fresh()
			a.List = append(make([]api.Value, 0, 10), a.List...)
			a.List[:4][3] = text0("behind")
			b := other
			if turn {
				a, b = b, a
			}
			want, _ := Arith(api.LangC, api.EAdd, a, b)
			got, _ := Arith(api.LangC, api.EAdd, a, b)
			if again := fresh(); !Same(a, again) && !Same(b, again) {
				t.Error("Arith wrote over a list")
			}
			if whole := a.List[:cap(a.List)]; cap(a.List) == 10 && whole[3].Text != "behind" {
				t.Error("Arith wrote behind a list")
			}
			touch(got.List)
			if again, _ := Arith(api.LangC, api.EAdd, a, b); !Same(again, want) {
				t.Errorf("an answer of Arith shares memory with what was handed in: %v; want %v", again, want)
			}
		}
	}
	b, _ := Encode(fresh())
	v, _ := Decode(b)
	clear(b)
	if !Same(v, fresh()) {
		t.Error("an answer of Decode shares memory with its bytes")
	}
	touch(v.List[1].List)
	if !Same(v.List[0], int0(1)) || !Same(v.List[2], list0()) {
		t.Error("two lists of an answer of Decode share memory")
	}
	short := fresh()
	short.List = append(short.List, node0(-1))[:3]
	if !Check(short) || !Same(short, fresh()) || Text(short) != Text(fresh()) {
		t.Error("what lies behind a list's length was read")
	}
}

// TestTexts: P2.9: R2: texts, too, are new memory.
func TestTexts(t *testing.T) {
	s := strings.Repeat("a", 10)
	sum, _ := Arith(api.LangC, api.EAdd, text0(s), text0(""))
	mus, _ := Arith(api.LangC, api.EAdd, text0(""), text0(s))
	joined, _ := Arith(api.LangC, api.EAdd, list0(lit0(s, s), list0(text0(s))), list0())
	b, _ := Encode(text0(s))
	decoded, _ := Decode(b)
	for i, got := range []string{sum.Text, mus.Text, joined.List[0].Text, joined.List[0].Extra, joined.List[1].List[0].Text, Text(text0(s)), Text(lit0(s, "x")), decoded.Text} {
		if got != s || unsafe.StringData(got) == unsafe.StringData(s) {
			t.Errorf("answer %d: %q, or the same memory", i, got)
		}
	}
}

// TestAtOnce: P2.9: R6: calls that run at once tell what they tell one by one.
func TestAtOnce(t *testing.T) {
	values := inOrder()
	ask := func() string {
		var b strings.Builder
		for _, v := range values {
			bytes, _ := Encode(v)
			again, _ := Decode(bytes)
			b.WriteString(Text(again))
			for _, w := range values {
				b.WriteByte(byte('1' + Order(api.LangC, v, w)))
				b.WriteByte(byte('0' + Equal(api.LangS, v, w)))
			}
		}
		return b.String()
	}
	want := ask()
	answers := make(chan string)
	for range 8 {
		go func() { answers <- ask() }()
	}
	for range 8 {
		if <-answers != want {
			t.Error("at once the answers are others")
		}
	}
}
