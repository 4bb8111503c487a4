package value

import (
	"math"
	"strings"

	"diptych/api"
	"diptych/decimal"
)

func isOperation(op int) bool {
	switch op {
	case api.EAdd, api.ESub, api.EMul, api.EDiv, api.EMod:
		return true
	}
	return false
}

// reckon is Arith of two values that may be and are not KNull.
func reckon(lang, op int, a, b api.Value) (api.Value, api.Errno) {
	joins := lang != api.LangS && op == api.EAdd
	switch {
	case joins && bothAre(api.KText, a, b):
		return joinTexts(a.Text, b.Text)
	case joins && bothAre(api.KList, a, b):
		return joinLists(a.List, b.List)
	case !isNumber(a) || !isNumber(b):
		return api.Value{}, api.ErrType
	case bothAre(api.KInt, a, b) && (op != api.EDiv || lang != api.LangS):
		return reckonInts(op, a.Int, b.Int)
	}
	return reckonDecimals(op, asDecimal(a), asDecimal(b))
}

func joinTexts(a, b string) (api.Value, api.Errno) {
	if len(a)+len(b) > api.MaxText {
		return api.Value{}, api.ErrOverflow
	}
	return api.Value{Kind: api.KText, Text: strings.Join([]string{a, b}, "")}, api.OK
}

func joinLists(a, b []api.Value) (api.Value, api.Errno) {
	if len(a)+len(b) > api.MaxParts {
		return api.Value{}, api.ErrOverflow
	}
	return api.Value{Kind: api.KList, List: append(copyList(a), copyList(b)...)}, api.OK
}

// copyList tells a list that shares nothing with l, nor with what lies in it.
func copyList(l []api.Value) []api.Value {
	var copied []api.Value
	for _, v := range l {
		v.Text, v.Extra, v.List = strings.Clone(v.Text), strings.Clone(v.Extra), copyList(v.List)
		copied = append(copied, v)
	}
	return copied
}

func reckonInts(op int, a, b int64) (api.Value, api.Errno) {
	var n int64
	fits := true
	switch op {
	case api.EAdd:
		n, fits = addInts(a, b)
	case api.ESub:
		n, fits = subInts(a, b)
	case api.EMul:
		n, fits = mulInts(a, b)
	default:
		if b == 0 {
			return api.Value{}, api.ErrZero
		}
		n, fits = divInts(op, a, b)
	}
	if !fits {
		return api.Value{}, api.ErrOverflow
	}
	return api.Value{Kind: api.KInt, Int: n}, api.OK
}

// The calls below tell a wrapped number beside false.

func addInts(a, b int64) (int64, bool) {
	sum := a + b
	return sum, (sum < a) == (b < 0)
}

func subInts(a, b int64) (int64, bool) {
	left := a - b
	return left, (left > a) == (b < 0)
}

func mulInts(a, b int64) (int64, bool) {
	product := a * b
	if a == 0 {
		return product, true
	}
	// The quotient by -1 wraps back again, so it can't tell.
	return product, product/a == b && !(a == -1 && b == math.MinInt64)
}

func divInts(op int, a, b int64) (int64, bool) {
	if op == api.EMod {
		return a % b, true
	}
	return a / b, !(a == math.MinInt64 && b == -1)
}

func reckonDecimals(op int, a, b string) (api.Value, api.Errno) {
	var result string
	err := api.ErrType // of EMod
	switch op {
	case api.EAdd:
		result, err = decimal.Add(a, b)
	case api.ESub:
		result, err = decimal.Sub(a, b)
	case api.EMul:
		result, err = decimal.Mul(a, b)
	case api.EDiv:
		result, err = decimal.Div(a, b)
	}
	if err != api.OK {
		return api.Value{}, err
	}
	return api.Value{Kind: api.KDec, Text: result}, api.OK
}
