package naive

import (
	"slices"
	"strings"

	"diptych/api"
	"diptych/decimal"
	"diptych/value"
)

// eachOnce tells those of l that are not the same as one ahead of them.
func eachOnce(l []api.Value) []api.Value {
	var kept []api.Value
	seen := map[string]struct{}{}
	for _, v := range l {
		code := encoding([]api.Value{v})
		if _, again := seen[code]; !again {
			seen[code] = struct{}{}
			kept = append(kept, v)
		}
	}
	return kept
}

// total is Aggregate of what may be; what it tells may share memory with l.
func total(lang int, a api.Expr, l []api.Value, rows int) (api.Value, api.Errno) {
	switch a.Text {
	case "count":
		if len(a.Args) == 0 {
			return number(int64(rows)), api.OK
		}
		return number(int64(len(l))), api.OK
	case "sum":
		return sum(l)
	case "avg":
		return average(lang, l)
	case "collect":
		return collected(lang, l)
	case "concat":
		return texts(l)
	case "max":
		return outermost(l, func(a, b api.Value) int { return value.Order(lang, b, a) })
	}
	return outermost(l, func(a, b api.Value) int { return value.Order(lang, a, b) }) // min, sample
}

// outermost tells the first of l in an order; of none none.
func outermost(l []api.Value, order func(a, b api.Value) int) (api.Value, api.Errno) {
	if len(l) == 0 {
		return api.Value{}, api.OK
	}
	return slices.MinFunc(l, order), api.OK
}

// sum reckons in decimals, so that nothing overflows on the way.
func sum(l []api.Value) (api.Value, api.Errno) {
	exact, err := decimalSum(l)
	if err != api.OK {
		return api.Value{}, err
	}
	if !every(l, func(v api.Value) bool { return v.Kind == api.KInt }) {
		return api.Value{Kind: api.KDec, Text: exact}, api.OK
	}
	n, fits := decimal.ToInt(exact)
	if !fits {
		return api.Value{}, api.ErrOverflow
	}
	return number(n), api.OK
}

func average(lang int, l []api.Value) (api.Value, api.Errno) {
	switch {
	case len(l) > 0:
		return quotient(l)
	case lang == api.LangS:
		return number(0), api.OK
	}
	return api.Value{}, api.OK
}

func quotient(l []api.Value) (api.Value, api.Errno) {
	exact, err := decimalSum(l)
	if err != api.OK {
		return api.Value{}, err
	}
	exact, err = decimal.Div(exact, decimal.OfInt(int64(len(l))))
	if err != api.OK {
		return api.Value{}, err
	}
	return api.Value{Kind: api.KDec, Text: exact}, api.OK
}

func decimalSum(l []api.Value) (string, api.Errno) {
	var decimals []string
	for _, v := range l {
		switch v.Kind {
		case api.KInt:
			decimals = append(decimals, decimal.OfInt(v.Int))
		case api.KDec:
			decimals = append(decimals, v.Text)
		default:
			return "", api.ErrType
		}
	}
	return decimal.Sum(decimals)
}

func collected(lang int, l []api.Value) (api.Value, api.Errno) {
	if len(l) > api.MaxParts {
		return api.Value{}, api.ErrOverflow
	}
	list := api.Value{Kind: api.KList, List: slices.Clone(l)}
	if !value.Check(list) {
		return api.Value{}, api.ErrOverflow
	}
	slices.SortFunc(list.List, func(a, b api.Value) int { return value.Order(lang, a, b) })
	return list, api.OK
}

// texts tells the texts of l, sorted, with blanks between.
func texts(l []api.Value) (api.Value, api.Errno) {
	var all []string
	for _, v := range l {
		switch v.Kind {
		case api.KText, api.KIri:
			all = append(all, v.Text)
		case api.KInt, api.KDec, api.KBool:
			all = append(all, value.Text(v))
		default:
			return api.Value{}, api.ErrType
		}
	}
	length := max(len(all)-1, 0)
	for _, s := range all {
		length += len(s)
	}
	if length > api.MaxText {
		return api.Value{}, api.ErrOverflow
	}
	slices.Sort(all)
	return text(strings.Join(all, " ")), api.OK
}

func number(n int64) api.Value {
	return api.Value{Kind: api.KInt, Int: n}
}
