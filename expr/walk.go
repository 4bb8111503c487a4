package expr

import (
	"iter"
	"strings"

	"diptych/api"
)

// partsOf tells e and what is in it, each ahead of its own arguments, as far as MaxDeep.
func partsOf(e api.Expr) iter.Seq[api.Expr] {
	return func(yield func(api.Expr) bool) {
		walk(e, 1, yield)
	}
}

// walk tells whether yield wants more.
func walk(e api.Expr, deep int, yield func(api.Expr) bool) bool {
	if deep > api.MaxDeep {
		return true
	}
	if !yield(e) {
		return false
	}
	for _, arg := range e.Args {
		if !walk(arg, deep+1, yield) {
			return false
		}
	}
	return true
}

// own tells v in memory that it shares with nothing.
func own(v api.Value) api.Value {
	var copied []api.Value
	for _, part := range v.List {
		copied = append(copied, own(part))
	}
	v.Text, v.Extra, v.List = strings.Clone(v.Text), strings.Clone(v.Extra), copied
	return v
}
