package naive

import (
	"math"
	"math/big"
	"math/rand"
	"slices"
	"strings"
	"testing"

	"diptych/api"
	"diptych/decimal"
	"diptych/value"
)

// aggregates holds Aggregate of the values, of as many rows.
func aggregates(t *testing.T, lang int, a api.Expr, want string, l ...api.Value) {
	t.Helper()
	got, err := Aggregate(lang, a, l, len(l))
	if err != api.OK || cell(got) != want || !value.Check(got) {
		t.Errorf("lang %d, %s of %s: %d, %s; want %s", lang, a.Text, cell(list(l...)), err, cell(got), want)
	}
}

func aggregatesBoth(t *testing.T, a api.Expr, want string, l ...api.Value) {
	t.Helper()
	for _, lang := range langs {
		aggregates(t, lang, a, want, l...)
	}
}

func aggregateErrs(t *testing.T, lang int, a api.Expr, rows int, want api.Errno, l ...api.Value) {
	t.Helper()
	got, err := Aggregate(lang, a, l, rows)
	if err != want || !value.Same(got, none) {
		t.Errorf("lang %d, %s of %.200s, %d rows: %d, %.200s; want error %d", lang, a.Text, cell(list(l...)), rows, err, cell(got), want)
	}
}

// of is an aggregate of a variable, unique the same of unlike values.
func of(name string) api.Expr     { return agg(name, at("x")) }
func unique(name string) api.Expr { return not(of(name)) }

// TestAggregateArgs: P11.2: ErrArg of no aggregate of the language, of values that may not be, of fewer rows than values.
func TestAggregateArgs(t *testing.T) {
	nested := of("sum")
	nested.Args = []api.Expr{of("count")}
	for _, lang := range langs {
		for _, a := range []api.Expr{{}, at("x"), yes, call("abs", at("x")), exists(unit()), of("product"), of(""), of("COUNT"), agg("sum"), agg("count", at("x"), at("x")), nested, agg("min", api.Expr{}), {Op: api.EAgg, Text: "count", V: num(1)}, {Op: api.EAgg + 100}, {Op: -1}} {
			aggregateErrs(t, lang, a, 5, api.ErrArg, num(1))
			aggregateErrs(t, lang, a, 0, api.ErrArg)
		}
		for _, name := range []string{"count", "sum", "min", "max", "avg"} {
			for _, v := range []api.Value{{Kind: -1}, {Kind: 99}, dec("1"), dec("01.0"), iri(""), {Kind: api.KInt, Int: 1, Text: "x"}, node(-1), list(iri("<"))} {
				aggregateErrs(t, lang, of(name), 5, api.ErrArg, num(1), v)
				aggregateErrs(t, lang, unique(name), 5, api.ErrArg, v, num(1))
			}
			aggregateErrs(t, lang, of(name), 1, api.ErrArg, num(1), num(1))
			aggregateErrs(t, lang, unique(name), 1, api.ErrArg, num(1), num(1))
			aggregateErrs(t, lang, of(name), 0, api.ErrArg, num(1))
			aggregateErrs(t, lang, of(name), -1, api.ErrArg)
			aggregateErrs(t, lang, of(name), math.MinInt, api.ErrArg, num(1))
		}
		aggregateErrs(t, lang, agg("count"), 4, api.ErrArg, iri(""))
		aggregateErrs(t, lang, agg("count"), -1, api.ErrArg)
		// what may not be is told ahead of other errors
		aggregateErrs(t, lang, of("sum"), 9, api.ErrArg, text("a"), iri(""))
	}
	aggregateErrs(t, api.LangS, of("collect"), 5, api.ErrArg, num(1))
	aggregateErrs(t, api.LangC, of("sample"), 5, api.ErrArg, num(1))
	aggregateErrs(t, api.LangC, of("concat"), 5, api.ErrArg, num(1))
	for _, lang := range []int{-1, 2, math.MaxInt, math.MinInt} { // as in C
		aggregates(t, lang, of("collect"), "[1 -]", none, num(1))
		aggregates(t, lang, of("avg"), "-")
		aggregateErrs(t, lang, of("concat"), 5, api.ErrArg, text("a"))
	}
}

// TestCount: P11.2: values, or rows, where there is no argument.
func TestCount(t *testing.T) {
	for _, lang := range langs {
		for _, c := range []struct {
			a    api.Expr
			rows int
			want string
		}{
			{of("count"), 3, "3"}, {of("count"), 9, "3"}, {unique("count"), 9, "2"}, {agg("count"), 9, "9"}, {not(agg("count")), 9, "9"}, {agg("count"), math.MaxInt, "9223372036854775807"},
		} {
			got, err := Aggregate(lang, c.a, []api.Value{num(1), num(2), num(1)}, c.rows)
			if err != api.OK || cell(got) != c.want {
				t.Errorf("count of %d rows: %d, %s; want %s", c.rows, err, cell(got), c.want)
			}
		}
		aggregates(t, lang, unique("count"), "6", num(3), dec("3.0"), text("3"), iri("3"), tagged("3", "a"), tagged("3", "b"), num(3), text("3"), tagged("3", "a"))
		aggregates(t, lang, of("count"), "0")
		aggregates(t, lang, agg("count"), "0")
	}
}

// TestSum: P11.2: exactly; a KInt just of these.
func TestSum(t *testing.T) {
	most, least := num(math.MaxInt64), num(math.MinInt64)
	nines := dec(strings.Repeat("9", api.MaxDigits) + ".0")
	aggregatesBoth(t, of("sum"), "0")
	aggregatesBoth(t, of("sum"), "6", num(1), num(2), num(3))
	aggregatesBoth(t, of("sum"), "5", num(2), num(2), num(1))
	aggregatesBoth(t, unique("sum"), "3", num(2), num(2), num(1))
	aggregatesBoth(t, unique("sum"), "4.0", num(2), dec("2.0"), num(2))
	aggregatesBoth(t, of("sum"), "3.0", num(1), dec("2.0"))
	aggregatesBoth(t, of("sum"), "2.0", dec("2.0"))
	aggregatesBoth(t, of("sum"), "0.3", dec("0.1"), dec("0.2"))
	aggregatesBoth(t, of("sum"), "-0.5", num(-1), dec("0.5"))
	aggregatesBoth(t, of("sum"), "9223372036854775807", most)
	aggregatesBoth(t, of("sum"), "-9223372036854775808", least)
	aggregatesBoth(t, of("sum"), "9223372036854775807", most, num(1), num(-1))
	aggregatesBoth(t, of("sum"), "-1", most, most, least, least, num(1))
	aggregatesBoth(t, of("sum"), "9223372036854775808.0", most, dec("1.0"))
	aggregatesBoth(t, of("sum"), nines.Text, nines, nines, dec("-"+nines.Text))
	for _, lang := range langs {
		aggregateErrs(t, lang, of("sum"), 2, api.ErrOverflow, most, num(1))
		aggregateErrs(t, lang, of("sum"), 2, api.ErrOverflow, least, num(-1))
		aggregateErrs(t, lang, of("sum"), 2, api.ErrOverflow, nines, dec("1.0"))
		for _, v := range []api.Value{none, text("1"), truth(true), iri("a"), list(num(1)), node(1), edge(1), blank("a"), tagged("1", "x")} {
			for _, name := range []string{"sum", "avg"} {
				aggregateErrs(t, lang, of(name), 1, api.ErrType, v)
				aggregateErrs(t, lang, of(name), 9, api.ErrType, num(1), v, num(2))
				aggregateErrs(t, lang, unique(name), 4, api.ErrType, most, num(1), v)
			}
		}
	}
}

// TestAvg: P11.2: the sum as a decimal, by how many.
func TestAvg(t *testing.T) {
	aggregates(t, api.LangC, of("avg"), "-")
	aggregates(t, api.LangS, of("avg"), "0")
	aggregatesBoth(t, of("avg"), "2.0", num(1), num(3))
	aggregatesBoth(t, of("avg"), "5.0", num(5))
	aggregatesBoth(t, of("avg"), "0.66666666666666666666", num(1), num(1), num(0))
	aggregatesBoth(t, of("avg"), "-0.66666666666666666666", num(-1), num(-1), num(0))
	aggregatesBoth(t, unique("avg"), "0.5", num(1), num(1), num(0))
	aggregatesBoth(t, unique("avg"), "1.5", num(1), dec("1.0"), dec("2.5"), num(1))
	aggregatesBoth(t, of("avg"), "9223372036854775807.0", num(math.MaxInt64), num(math.MaxInt64), num(math.MaxInt64))
	for _, lang := range langs {
		nines := dec(strings.Repeat("9", api.MaxDigits) + ".0")
		aggregateErrs(t, lang, of("avg"), 2, api.ErrOverflow, nines, nines)
	}
}

// TestMinMaxSample: P11.2: min, max, sample by value.Order.
func TestMinMaxSample(t *testing.T) {
	mixed := []api.Value{text("b"), num(3), iri("z"), truth(true), dec("3.0"), text("a"), list(num(1)), node(4), dec("2.5"), blank("q"), tagged("a", "en")}
	for _, v := range mixed {
		for _, name := range []string{"min", "max"} {
			aggregatesBoth(t, of(name), cell(v), v)
		}
		aggregates(t, api.LangS, of("sample"), cell(v), v)
	}
	aggregatesBoth(t, of("min"), "[1]", mixed...)
	aggregatesBoth(t, of("max"), "3.0", mixed...)
	aggregatesBoth(t, unique("max"), "3.0", append(mixed, mixed...)...)
	aggregates(t, api.LangS, of("sample"), "[1]", mixed...)
	aggregates(t, api.LangS, of("sample"), "_:q", mixed[9], mixed[1], mixed[2])
	aggregatesBoth(t, of("min"), "3", num(3), dec("3.0"))
	aggregatesBoth(t, of("min"), "3", dec("3.0"), num(3))
	aggregatesBoth(t, of("min"), `"a"`, text("b"), text("a"), text("ab"))
	aggregatesBoth(t, of("max"), `"b"`, text("b"), text("a"), text("ab"))
	aggregatesBoth(t, of("min"), "-")
	aggregatesBoth(t, of("max"), "-")
	aggregates(t, api.LangS, of("sample"), "-")
	aggregates(t, api.LangS, of("min"), "-", num(1), none)
	aggregates(t, api.LangS, of("max"), "1", num(1), none)
}

// TestCollect: P11.2: sorted by value.Order, within the caps of lists.
func TestCollect(t *testing.T) {
	collect := func(a api.Expr, want string, l ...api.Value) {
		t.Helper()
		aggregates(t, api.LangC, a, want, l...)
	}
	collect(of("collect"), "[]")
	collect(of("collect"), "[1 2 2 3.0]", num(2), dec("3.0"), num(1), num(2))
	collect(unique("collect"), "[1 2 2.0]", num(2), dec("2.0"), num(1), num(2))
	collect(of("collect"), `[[] [1] (2) "a" "b" false true 1]`, text("b"), num(1), truth(true), list(num(1)), node(2), truth(false), text("a"), list())
	many := slices.Repeat([]api.Value{num(1)}, api.MaxParts+1)
	got, err := Aggregate(api.LangC, of("collect"), many[1:], api.MaxParts)
	if err != api.OK || len(got.List) != api.MaxParts || !value.Check(got) {
		t.Errorf("collect of MaxParts: %d, %d", err, len(got.List))
	}
	aggregateErrs(t, api.LangC, of("collect"), len(many), api.ErrOverflow, many...)
	collect(unique("collect"), "[1]", many...)
	deep := list()
	for range api.MaxDeep - 1 {
		deep = list(deep)
	}
	if !value.Check(deep) || value.Check(list(deep)) {
		t.Fatal("not as deep as may be")
	}
	aggregateErrs(t, api.LangC, of("collect"), 2, api.ErrOverflow, num(1), deep)
	got, err = Aggregate(api.LangC, of("collect"), deep.List, 1)
	if err != api.OK || !value.Same(got, deep) {
		t.Errorf("collect, as deep as may be: %d", err)
	}
}

// TestConcat: P11.2: texts, sorted, with blanks between, within the cap of texts.
func TestConcat(t *testing.T) {
	concat := func(a api.Expr, want string, l ...api.Value) {
		t.Helper()
		aggregates(t, api.LangS, a, want, l...)
	}
	concat(of("concat"), `""`)
	concat(of("concat"), `"a"`, text("a"))
	concat(of("concat"), `""`, text(""))
	concat(of("concat"), `" "`, text(""), text(""))
	concat(of("concat"), `"-1.5 12 3 a b true z"`, text("z"), num(3), num(12), iri("a"), truth(true), dec("-1.5"), text("b"))
	concat(of("concat"), `"a a a"`, text("a"), iri("a"), text("a"))
	concat(unique("concat"), `"a a"`, text("a"), iri("a"), text("a"))
	concat(of("concat"), `"B a false \xe9"`, text("\xe9"), text("a"), truth(false), text("B"))
	for _, v := range []api.Value{none, blank("a"), tagged("a", "en"), list(text("a")), node(1), edge(1)} {
		aggregateErrs(t, api.LangS, of("concat"), 3, api.ErrType, text("a"), v)
	}
	half := text(strings.Repeat("x", api.MaxText/2))
	less := text(half.Text[1:])
	got, err := Aggregate(api.LangS, of("concat"), []api.Value{half, less}, 2)
	if err != api.OK || got.Text != less.Text+" "+half.Text || len(got.Text) != api.MaxText {
		t.Errorf("concat as long as may be: %d, %d bytes", err, len(got.Text))
	}
	aggregateErrs(t, api.LangS, of("concat"), 2, api.ErrOverflow, half, half)
	aggregateErrs(t, api.LangS, of("concat"), 3, api.ErrType, half, half, none)
	concat(of("concat"), cell(text(strings.Repeat(" ", 9))), slices.Repeat([]api.Value{text("")}, 10)...)
	blanks := slices.Repeat([]api.Value{text("")}, api.MaxText+2)
	got, err = Aggregate(api.LangS, of("concat"), blanks[1:], len(blanks))
	if err != api.OK || got.Text != strings.Repeat(" ", api.MaxText) {
		t.Errorf("concat of empty texts: %d, %d bytes", err, len(got.Text))
	}
	aggregateErrs(t, api.LangS, of("concat"), len(blanks), api.ErrOverflow, blanks...)
}

// bigOf tells a number as a count of the smallest parts that a decimal has.
func bigOf(v api.Value) *big.Int {
	s := v.Text
	if v.Kind == api.KInt {
		s = decimal.OfInt(v.Int)
	}
	ahead, behind, _ := strings.Cut(s, ".")
	n, _ := new(big.Int).SetString(ahead+behind+strings.Repeat("0", api.MaxScale-len(behind)), 10)
	return n
}

// TestSumsOfMany: P11.2: sums and averages against numbers without bounds, in whatever order the values come.
func TestSumsOfMany(t *testing.T) {
	random := rand.New(rand.NewSource(11))
	for range 2000 {
		var l []api.Value
		total, whole := new(big.Int), true
		for range random.Intn(12) {
			v := num(random.Int63n(1000) - 500)
			switch random.Intn(6) {
			case 0:
				v = num(int64(random.Uint64()))
			case 1:
				v, whole = dec(mustRead(t, value.Text(num(random.Int63n(99)-50))+"."+value.Text(num(random.Int63n(9999))))), false
			}
			l = append(l, v)
			total.Add(total, bigOf(v))
		}
		one := new(big.Int).Exp(big.NewInt(10), big.NewInt(api.MaxScale), nil)
		got, err := Aggregate(api.LangC, of("sum"), l, len(l))
		switch fits := new(big.Int).Quo(total, one).IsInt64(); {
		case whole && !fits:
			if err != api.ErrOverflow {
				t.Errorf("sum of %s: %d, %s", cell(list(l...)), err, cell(got))
			}
		case err != api.OK || bigOf(got).Cmp(total) != 0 || (got.Kind == api.KInt) != whole:
			t.Errorf("sum of %s: %d, %s", cell(list(l...)), err, cell(got))
		}
		if len(l) == 0 {
			continue
		}
		got, err = Aggregate(api.LangS, of("avg"), l, len(l)+1)
		if want := total.Quo(total, big.NewInt(int64(len(l)))); err != api.OK || got.Kind != api.KDec || bigOf(got).Cmp(want) != 0 {
			t.Errorf("avg of %s: %d, %s", cell(list(l...)), err, cell(got))
		}
	}
}

func mustRead(t *testing.T, s string) string {
	t.Helper()
	d, err := decimal.Read(s)
	if err != api.OK {
		t.Fatal(s)
	}
	return d
}

// TestAnyOrder: P11.2: the order of the values has no part in what is told.
func TestAnyOrder(t *testing.T) {
	random := rand.New(rand.NewSource(12))
	pool := []api.Value{num(1), num(2), dec("1.0"), dec("0.5"), num(-3), text("a"), text("b"), iri("a"), truth(true)}
	for range 300 {
		var l []api.Value
		for range random.Intn(7) {
			l = append(l, pool[random.Intn(len(pool))])
		}
		for lang, names := range [][]string{{"count", "sum", "avg", "min", "max", "collect"}, {"count", "sum", "avg", "min", "max", "sample", "concat"}} {
			for _, name := range names {
				for _, a := range []api.Expr{of(name), unique(name)} {
					want, wantErr := Aggregate(lang, a, l, len(l))
					turned := slices.Clone(l)
					random.Shuffle(len(turned), func(i, j int) { turned[i], turned[j] = turned[j], turned[i] })
					if got, err := Aggregate(lang, a, turned, len(l)); err != wantErr || !value.Same(got, want) {
						t.Errorf("%s of %s: %d, %s; turned %d, %s", name, cell(list(l...)), wantErr, cell(want), err, cell(got))
					}
				}
			}
		}
	}
}
