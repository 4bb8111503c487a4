package value

import (
	"cmp"
	"slices"
	"strings"

	"diptych/api"
	"diptych/decimal"
)

// Ranks, in the order of the values that have them.
const (
	rankUnbound = iota // KNull in LangS
	rankList
	rankNode
	rankEdge
	rankBlank
	rankIri
	rankLit
	rankText
	rankBool
	rankNumber
	rankNull // KNull in LangC
	rankStranger
)

func rank(lang int, v api.Value) int {
	switch kindOf(v).(type) {
	case null:
		if lang == api.LangS {
			return rankUnbound
		}
		return rankNull
	case list:
		return rankList
	case node:
		return rankNode
	case edge:
		return rankEdge
	case blank:
		return rankBlank
	case iri:
		return rankIri
	case literal:
		return rankLit
	case text:
		return rankText
	case truth:
		return rankBool
	case whole, exact:
		return rankNumber
	}
	return rankStranger
}

// orderWithin is Order of two values of one rank.
func orderWithin(lang int, a, b api.Value) int {
	switch kindOf(a).(type) {
	case list:
		return slices.CompareFunc(a.List, b.List, func(x, y api.Value) int { return Order(lang, x, y) })
	case node, edge:
		return cmp.Compare(a.Int, b.Int)
	case truth:
		return orderBools(a.Bool, b.Bool)
	case whole, exact:
		return orderNumbers(a, b)
	}
	return cmp.Or(strings.Compare(a.Text, b.Text), strings.Compare(a.Extra, b.Extra))
}

func orderBools(a, b bool) int {
	switch {
	case a == b:
		return 0
	case b:
		return -1
	}
	return 1
}

func orderNumbers(a, b api.Value) int {
	byNumber := compareNumbers(a, b)
	switch {
	case byNumber != 0 || bothAre(api.KInt, a, b):
		return byNumber
	case bothAre(api.KDec, a, b):
		return strings.Compare(a.Text, b.Text)
	case a.Kind == api.KInt:
		return -1
	}
	return 1
}

func compareNumbers(a, b api.Value) int {
	if bothAre(api.KInt, a, b) {
		return cmp.Compare(a.Int, b.Int)
	}
	return decimal.Compare(asDecimal(a), asDecimal(b))
}

// asDecimal tells a number as a decimal, and 0 where its text is none.
func asDecimal(v api.Value) string {
	switch {
	case v.Kind == api.KInt:
		return decimal.OfInt(v.Int)
	case decimal.Check(v.Text):
		return v.Text
	}
	return decimal.OfInt(0)
}

func truthOf(holds bool) int {
	if holds {
		return api.True
	}
	return api.False
}

// equal is Equal of values that may be.
func equal(lang int, a, b api.Value) int {
	switch {
	case a.Kind == api.KNull || b.Kind == api.KNull:
		return api.Unknown
	case isNumber(a) && isNumber(b):
		return truthOf(compareNumbers(a, b) == 0)
	case lang == api.LangS && (isGraphs(a) || isGraphs(b) || isOpen(a, b) || isOpen(b, a)):
		return api.Unknown
	case bothAre(api.KList, a, b):
		return equalLists(lang, a.List, b.List)
	}
	return truthOf(Same(a, b))
}

func equalLists(lang int, a, b []api.Value) int {
	if len(a) != len(b) {
		return api.False
	}
	all := api.True
	for i := range a {
		switch equal(lang, a[i], b[i]) {
		case api.False:
			return api.False
		case api.Unknown:
			all = api.Unknown
		}
	}
	return all
}

// isGraphs tells whether v is of the kinds that only graphs and their queries have.
func isGraphs(v api.Value) bool {
	return v.Kind == api.KList || v.Kind == api.KNode || v.Kind == api.KEdge
}

// isOpen tells whether a is a literal of some datatype that may say the same as b, though it is not the same.
func isOpen(a, b api.Value) bool {
	if a.Kind != api.KLit || Same(a, b) {
		return false
	}
	return b.Kind == api.KLit || b.Kind == api.KText || b.Kind == api.KBool || isNumber(b)
}
