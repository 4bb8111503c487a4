package value

import (
	"diptych/api"
	"diptych/decimal"
)

// Small types that stand for the kinds, so that type switches part them.
type (
	null     struct{}
	truth    struct{}
	whole    struct{}
	exact    struct{}
	text     struct{}
	list     struct{}
	node     struct{}
	edge     struct{}
	iri      struct{}
	blank    struct{}
	literal  struct{}
	stranger struct{} // of a kind that there is not
)

func kindOf(v api.Value) any {
	switch v.Kind {
	case api.KNull:
		return null{}
	case api.KBool:
		return truth{}
	case api.KInt:
		return whole{}
	case api.KDec:
		return exact{}
	case api.KText:
		return text{}
	case api.KList:
		return list{}
	case api.KNode:
		return node{}
	case api.KEdge:
		return edge{}
	case api.KIri:
		return iri{}
	case api.KBlank:
		return blank{}
	case api.KLit:
		return literal{}
	}
	return stranger{}
}

// mayBe tells whether a value may be that lies in so many lists.
func mayBe(v api.Value, lists int) bool {
	rest, fits := v, false
	switch kindOf(v).(type) {
	case null:
		fits = true
	case truth:
		rest.Bool, fits = false, true
	case whole:
		rest.Int, fits = 0, true
	case node, edge:
		rest.Int, fits = 0, v.Int >= 0
	case exact:
		rest.Text, fits = "", decimal.Check(v.Text)
	case text:
		rest.Text, fits = "", len(v.Text) <= api.MaxText
	case iri:
		rest.Text, fits = "", isAddress(v.Text)
	case blank:
		rest.Text, fits = "", isName(v.Text)
	case literal:
		rest.Text, rest.Extra, fits = "", "", len(v.Text) <= api.MaxText && isAddress(v.Extra)
	case list:
		rest.List, fits = nil, allMayBe(v.List, lists+1)
	}
	return fits && isBare(rest)
}

func allMayBe(l []api.Value, lists int) bool {
	if len(l) > api.MaxParts || lists > api.MaxDeep {
		return false
	}
	for _, v := range l {
		if !mayBe(v, lists) {
			return false
		}
	}
	return true
}

// isBare tells whether v has nothing beside its kind.
func isBare(v api.Value) bool {
	return !v.Bool && v.Int == 0 && v.Text == "" && v.Extra == "" && len(v.List) == 0
}

// isAddress tells whether s may be an IRI, a datatype, a language.
func isAddress(s string) bool {
	if s == "" || len(s) > api.MaxText {
		return false
	}
	for i := range len(s) {
		if s[i] <= ' ' || s[i] == '<' || s[i] == '>' {
			return false
		}
	}
	return true
}

const maxName = 64

func isName(s string) bool {
	if s == "" || len(s) > maxName {
		return false
	}
	for i := range len(s) {
		if !isLetter(s[i]) && (i == 0 || !isDigit(s[i])) {
			return false
		}
	}
	return true
}

func isLetter(c byte) bool {
	return c >= 'a' && c <= 'z' || c >= 'A' && c <= 'Z' || c == '_'
}

func isDigit(c byte) bool {
	return c >= '0' && c <= '9'
}

func isNumber(v api.Value) bool {
	return v.Kind == api.KInt || v.Kind == api.KDec
}

func bothAre(kind int, a, b api.Value) bool {
	return a.Kind == kind && b.Kind == kind
}
