package decimal

import (
	"math/big"
	"strings"
	"testing"
	"unsafe"

	"diptych/api"
)

var (
	nines   = strings.Repeat("9", api.MaxDigits)
	most    = nines + "." + strings.Repeat("9", api.MaxScale)
	least   = "0." + strings.Repeat("0", api.MaxScale-1) + "1"
	noDecs  = []string{"", "-", "+", ".", "-.", "0", "1", "-1", "1.", ".5", "+1.5", "-0.0", "01.0", "00.0", "1.50", "1.00", "1.0.0", "1e5", "1.5e1", " 1.0", "1.0 ", "1,0", "--1.0", "-+1.0", "٣.٠", "1.\x00", "x", "1" + most, most + "9", "1_0.0", "0x1.0", "NaN", "Inf"}
	someDec = decimals()
)

// decimals tells edges, and numbers of many lengths by a fixed rule.
func decimals() []string {
	l := []string{"0.0", "1.0", "2.0", "3.0", "7.0", "9.0", "10.0", "0.1", "0.2", "0.5", "0.7", "1.5", "999999999.0", "999999999.999999999", "1000000000.0", "1000000001.0", "0.000000001", "0.999999999", "0.0000000001", "1000000000000000000.000000001", "9223372036854775807.0", "9223372036854775808.0", "100000000000000000000.0", "0.00000000000000000003", nines + ".0", nines + ".5", "1" + strings.Repeat("0", api.MaxDigits-1) + ".0", "5" + strings.Repeat("0", api.MaxDigits-1) + ".5", most, least}
	state := uint64(1)
	next := func(below int) int {
		state = state*6364136223846793005 + 1442695040888963407
		return int(state>>33) % below
	}
	for range 60 {
		var b strings.Builder
		for range 1 + next(api.MaxDigits) {
			b.WriteByte(byte('0' + next(10)))
		}
		b.WriteByte('.')
		for range 1 + next(api.MaxScale) {
			b.WriteByte(byte('0' + next(10)))
		}
		l = append(l, inForm(rat(b.String())))
	}
	for _, a := range l[1:] {
		l = append(l, "-"+a)
	}
	return l
}

func rat(s string) *big.Rat {
	r, ok := new(big.Rat).SetString(s)
	if !ok {
		panic(s)
	}
	return r
}

// inForm writes a number as a decimal, or tells the empty text, if it has none.
func inForm(r *big.Rat) string {
	scaled := new(big.Rat).Mul(r, new(big.Rat).SetInt(tenTo(api.MaxScale)))
	if !scaled.IsInt() || new(big.Rat).Abs(r).Cmp(new(big.Rat).SetInt(tenTo(api.MaxDigits))) >= 0 {
		return ""
	}
	s := strings.TrimRight(r.FloatString(api.MaxScale), "0")
	if strings.HasSuffix(s, ".") {
		s += "0"
	}
	return s
}

func tenTo(n int64) *big.Int {
	return new(big.Int).Exp(big.NewInt(10), big.NewInt(n), nil)
}

// cut takes all away that stands behind MaxScale digits.
func cut(r *big.Rat) *big.Rat {
	whole := new(big.Int).Mul(r.Num(), tenTo(api.MaxScale))
	whole.Quo(whole, r.Denom())
	return new(big.Rat).SetFrac(whole, tenTo(api.MaxScale))
}

// holds fails, unless the answer is want, or ErrOverflow where want is empty.
func holds(t *testing.T, call string, got string, err api.Errno, want string) {
	t.Helper()
	wanted := api.OK
	if want == "" {
		wanted = api.ErrOverflow
	}
	if got != want || err != wanted {
		t.Fatalf("%s: %q, %d; want %q, %d", call, got, err, want, wanted)
	}
}

type answer struct {
	text string
	err  api.Errno
}

// TestCheck: P1.1.
func TestCheck(t *testing.T) {
	for _, a := range someDec {
		if !Check(a) {
			t.Errorf("Check(%q): false", a)
		}
	}
	for _, a := range noDecs {
		if Check(a) {
			t.Errorf("Check(%q): true", a)
		}
	}
}

// TestRead: P1.1.
func TestRead(t *testing.T) {
	noughts := strings.Repeat("0", 100)
	for s, want := range map[string]answer{
		"+007.50": {"7.5", 0}, "-0": {"0.0", 0}, "+0": {"0.0", 0}, "-0.000": {"0.0", 0}, "0": {"0.0", 0}, "00": {"0.0", 0}, "12": {"12.0", 0}, "-12": {"-12.0", 0}, "-010.010": {"-10.01", 0}, "+.5": {"", api.ErrForm},
		most: {most, 0}, "-" + most: {"-" + most, 0}, "+" + most: {most, 0}, noughts + most + noughts: {most, 0}, nines: {nines + ".0", 0}, least: {least, 0}, "-" + least + noughts: {"-" + least, 0}, noughts: {"0.0", 0}, noughts + "." + noughts: {"0.0", 0},
		"1" + nines: {"", api.ErrOverflow}, "1" + most: {"", api.ErrOverflow}, most + "9": {"", api.ErrOverflow}, "-0." + noughts + "1": {"", api.ErrOverflow}, "1" + noughts: {"", api.ErrOverflow},
		"1" + nines + ".": {"", api.ErrForm}, "1" + nines + "x": {"", api.ErrForm}, most + "9-": {"", api.ErrForm}, "1" + most + ".1": {"", api.ErrForm},
	} {
		if got, err := Read(s); got != want.text || err != want.err {
			t.Errorf("Read(%q): %q, %d; want %q, %d", s, got, err, want.text, want.err)
		}
	}
	for _, s := range []string{"", "-", "+", ".", ".5", "5.", "-.5", "-5.", "--1", "+-1", "1-", "1.2.3", "1..2", "1e5", " 1", "1 ", "1\n", "1,5", "x", "٣", "0x1", "1_0", "Inf", "1.\x00", "1.-5", "/", ":", "1.:"} {
		if got, err := Read(s); got != "" || err != api.ErrForm {
			t.Errorf("Read(%q): %q, %d", s, got, err)
		}
	}
}

// TestInts: P1.2.
func TestInts(t *testing.T) {
	for n, want := range map[int64]string{0: "0.0", 7: "7.0", -7: "-7.0", 10: "10.0", -1000000000: "-1000000000.0", -1 << 63: "-9223372036854775808.0", 1<<63 - 1: "9223372036854775807.0"} {
		if a := OfInt(n); a != want {
			t.Errorf("OfInt(%d): %q", n, a)
		}
		if m, ok := ToInt(want); m != n || !ok {
			t.Errorf("ToInt(%q): %d, %t", want, m, ok)
		}
	}
	for _, a := range append([]string{"0.5", "-1.5", "10.01", least, "9223372036854775808.0", "-9223372036854775809.0", "-" + nines + ".0", most}, noDecs...) {
		if n, ok := ToInt(a); n != 0 || ok {
			t.Errorf("ToInt(%q): %d, %t", a, n, ok)
		}
	}
}

// TestCompare: P1.3, P1.5.
func TestCompare(t *testing.T) {
	for _, a := range someDec {
		for _, b := range someDec {
			if got, want := Compare(a, b), rat(a).Cmp(rat(b)); got != want {
				t.Fatalf("Compare(%q, %q): %d; want %d", a, b, got, want)
			}
			if (Compare(a, b) == 0) != (a == b) {
				t.Fatalf("Compare(%q, %q) is 0 of unlike texts, or is not of like ones", a, b)
			}
		}
	}
}

// TestExact: P1.3: Add, Sub and Mul.
func TestExact(t *testing.T) {
	for _, a := range someDec {
		for _, b := range someDec {
			x, y := rat(a), rat(b)
			sum, err := Add(a, b)
			holds(t, "Add("+a+", "+b+")", sum, err, inForm(new(big.Rat).Add(x, y)))
			left, err := Sub(a, b)
			holds(t, "Sub("+a+", "+b+")", left, err, inForm(new(big.Rat).Sub(x, y)))
			product, err := Mul(a, b)
			holds(t, "Mul("+a+", "+b+")", product, err, inForm(new(big.Rat).Mul(x, y)))
		}
	}
}

// TestExactEdges: P1.3: results that are just not too long, and just too long.
func TestExactEdges(t *testing.T) {
	half := strings.Repeat("9", api.MaxDigits/2) + ".0"
	fine := "0." + strings.Repeat("0", api.MaxScale/2-1) + "1"
	finer := "0." + strings.Repeat("0", api.MaxScale/2) + "1"
	for _, c := range []struct {
		name string
		do   func(a, b string) (string, api.Errno)
		a, b string
		want string
	}{
		{"Add", Add, "0.1", "0.2", "0.3"},
		{"Add", Add, nines + ".0", "0.5", nines + ".5"},
		{"Add", Add, nines + ".5", "0.5", ""},
		{"Add", Add, most, least, ""},
		{"Add", Add, "-" + most, least, "-" + nines + "." + strings.Repeat("9", api.MaxScale-1) + "8"},
		{"Add", Add, "-" + most, "-" + least, ""},
		{"Sub", Sub, most, most, "0.0"},
		{"Sub", Sub, "-" + most, least, ""},
		{"Sub", Sub, "0.0", "0.0", "0.0"},
		{"Mul", Mul, "-1.5", "0.4", "-0.6"},
		{"Mul", Mul, "-7.0", "0.0", "0.0"},
		{"Mul", Mul, half, half, inForm(new(big.Rat).Mul(rat(half), rat(half)))},
		{"Mul", Mul, most, most, ""},
		{"Mul", Mul, most, least, ""},
		{"Mul", Mul, nines + ".0", least, "99999999999999999999." + strings.Repeat("9", api.MaxScale)},
		{"Mul", Mul, fine, fine, least},
		{"Mul", Mul, fine, finer, ""},
		{"Mul", Mul, fine, "-" + finer, ""},
	} {
		got, err := c.do(c.a, c.b)
		holds(t, c.name+"("+c.a+", "+c.b+")", got, err, c.want)
	}
}

// TestNeg: P1.3.
func TestNeg(t *testing.T) {
	for _, a := range someDec {
		got, err := Neg(a)
		holds(t, "Neg("+a+")", got, err, inForm(new(big.Rat).Neg(rat(a))))
	}
}

// TestSum: P1.3.
func TestSum(t *testing.T) {
	ups := make([]string, 5000)
	for i := range ups {
		ups[i] = most
	}
	downs := make([]string, len(ups))
	for i := range downs {
		downs[i] = "-" + most
	}
	total := new(big.Rat)
	for _, a := range someDec {
		total.Add(total, rat(a))
	}
	for _, c := range []struct {
		name string
		l    []string
		want string
	}{
		{"none", nil, "0.0"},
		{"none, not nil", []string{}, "0.0"},
		{"one", []string{"-1.5"}, "-1.5"},
		{"tenths", []string{"0.1", "0.2", "-0.3"}, "0.0"},
		{"up, then down", append(append([]string{}, ups...), downs...), "0.0"},
		{"down, then up", append(append([]string{"-0.5"}, downs...), ups...), "-0.5"},
		{"up to the greatest", append(append([]string{}, ups...), downs[1:]...), most},
		{"one above the greatest", append(append([]string{least}, ups...), downs[1:]...), ""},
		{"far above", ups, ""},
		{"far below", downs, ""},
		{"all", someDec, inForm(total)},
	} {
		got, err := Sum(c.l)
		holds(t, c.name, got, err, c.want)
	}
	for _, a := range noDecs {
		for _, l := range [][]string{{a}, {"1.0", a}, {a, "1.0"}, append([]string{a}, ups...), append(append([]string{}, ups...), a)} {
			if got, err := Sum(l); got != "" || err != api.ErrArg {
				t.Errorf("Sum of %d with %q: %q, %d", len(l), a, got, err)
			}
		}
	}
}

// TestDiv: P1.4.
func TestDiv(t *testing.T) {
	for _, a := range someDec {
		for _, b := range someDec {
			got, err := Div(a, b)
			if b == "0.0" {
				if got != "" || err != api.ErrZero {
					t.Fatalf("Div(%q, %q): %q, %d", a, b, got, err)
				}
				continue
			}
			holds(t, "Div("+a+", "+b+")", got, err, inForm(cut(new(big.Rat).Quo(rat(a), rat(b)))))
		}
	}
	for _, c := range []struct{ a, b, want string }{
		{"1.0", "3.0", "0.33333333333333333333"}, {"-2.0", "3.0", "-0.66666666666666666666"}, {"2.0", "-3.0", "-0.66666666666666666666"}, {"-2.0", "-3.0", "0.66666666666666666666"},
		{"-" + least, "2.0", "0.0"}, {"0.0", "-5.0", "0.0"}, {most, "1.0", most}, {most, "-1.0", "-" + most}, {most, least, ""}, {least, least, "1.0"}, {nines + ".0", "0.9", ""}, {nines + ".0", "9.9", "1010101010101010101010101010101010101010.0"}, {"5" + strings.Repeat("0", api.MaxDigits-1) + ".0", "0.5", ""}, {"4" + nines[1:] + ".0", "0.5", nines[1:] + "8.0"},
	} {
		got, err := Div(c.a, c.b)
		holds(t, "Div("+c.a+", "+c.b+")", got, err, c.want)
	}
}

// TestLaws: P1.5; that Compare is an order of the texts stands in TestCompare.
func TestLaws(t *testing.T) {
	for _, a := range someDec {
		if got, err := Read(a); got != a || err != api.OK {
			t.Fatalf("Read(%q): %q, %d", a, got, err)
		}
		for _, b := range someDec {
			sum, err := Add(a, b)
			if again, errAgain := Add(b, a); again != sum || errAgain != err {
				t.Fatalf("Add(%q, %q) is not Add the other way round", a, b)
			}
			product, err := Mul(a, b)
			if again, errAgain := Mul(b, a); again != product || errAgain != err {
				t.Fatalf("Mul(%q, %q) is not Mul the other way round", a, b)
			}
			if err == api.OK && b != "0.0" {
				if again, err := Div(product, b); again != a || err != api.OK {
					t.Fatalf("Div of Mul(%q, %q): %q, %d", a, b, again, err)
				}
			}
			if left, err := Sub(a, b); err == api.OK {
				if again, err := Add(left, b); again != a || err != api.OK {
					t.Fatalf("Add of Sub(%q, %q): %q, %d", a, b, again, err)
				}
			}
		}
	}
}

// TestWrong: P1.3, P1.4, P1.6: what is no decimal is ErrArg, ahead of all else, and panics nowhere.
func TestWrong(t *testing.T) {
	long := strings.Repeat("9", 1<<20)
	wrong := append([]string{long, "-" + long + "." + long, "0." + long, strings.Repeat("-", 1<<10), strings.Repeat(".", 1<<10), "\xff\xfe.\x80", string(make([]byte, 100))}, noDecs...)
	for _, a := range wrong {
		if Check(a) || Compare(a, "1.0") != 0 || Compare("1.0", a) != 0 || Compare(a, a) != 0 {
			t.Errorf("Check or Compare of %.50q", a)
		}
		if got, err := Neg(a); got != "" || err != api.ErrArg {
			t.Errorf("Neg(%.50q): %q, %d", a, got, err)
		}
		for _, b := range []string{"1.0", "0.0", most, a} {
			for i, do := range []func(a, b string) (string, api.Errno){Add, Sub, Mul, Div} {
				if got, err := do(a, b); got != "" || err != api.ErrArg {
					t.Errorf("call %d of %.50q, %.50q: %q, %d", i, a, b, got, err)
				}
				if got, err := do(b, a); got != "" || err != api.ErrArg {
					t.Errorf("call %d of %.50q, %.50q: %q, %d", i, b, a, got, err)
				}
			}
		}
	}
	if got, err := Read(strings.Repeat("0", 1<<20) + "1.5" + strings.Repeat("0", 1<<20)); got != "1.5" || err != api.OK {
		t.Errorf("Read of a long text with needless noughts: %q, %d", got, err)
	}
}

// TestMemory: P1.6: R2.
func TestMemory(t *testing.T) {
	l := []string{"1.5", "-2.5", "bad", most}
	before := append([]string{}, l...)
	if got, err := Sum(l[:2]); got != "-1.0" || err != api.OK {
		t.Errorf("Sum of the first two: %q, %d", got, err)
	}
	for i := range l {
		if l[i] != before[i] {
			t.Errorf("Sum wrote over part %d", i)
		}
	}
	for _, a := range someDec {
		if a == "0.0" {
			continue
		}
		told := map[string]string{}
		told["Read"], _ = Read(a)
		told["Add"], _ = Add(a, "0.0")
		told["Add, the other way round"], _ = Add("0.0", a)
		told["Sub"], _ = Sub(a, "0.0")
		told["Mul"], _ = Mul(a, "1.0")
		told["Div"], _ = Div(a, "1.0")
		told["Sum"], _ = Sum([]string{a})
		for call, got := range told {
			if got != a || unsafe.StringData(got) == unsafe.StringData(a) {
				t.Errorf("%s of %q: %q, the same memory or another number", call, a, got)
			}
		}
	}
}

// TestAtOnce: P1.6: R6: calls that run at once tell what they tell one by one.
func TestAtOnce(t *testing.T) {
	type told struct{ sum, product, quotient string }
	ask := func() []told {
		var l []told
		for i, a := range someDec {
			b := someDec[len(someDec)-1-i]
			var x told
			x.sum, _ = Add(a, b)
			x.product, _ = Mul(a, b)
			x.quotient, _ = Div(a, b)
			l = append(l, x)
		}
		return l
	}
	want := ask()
	answers := make(chan []told)
	for range 8 {
		go func() { answers <- ask() }()
	}
	for range 8 {
		got := <-answers
		for i := range want {
			if got[i] != want[i] {
				t.Fatalf("at once: %v; want %v", got[i], want[i])
			}
		}
	}
}
