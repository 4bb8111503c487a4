package expr

import (
	"strings"

	"diptych/api"
	"diptych/value"
)

// function is a function of a language: how many arguments it takes, and what it makes of them.
type function struct {
	least, most int
	tell        func(w *work, args []lazy) (api.Value, api.Errno)
}

func functions(lang int) map[string]function {
	if lang == api.LangS {
		return map[string]function{
			"coalesce":  {1, api.MaxParts, (*work).firstThatIs},
			"if":        {3, 3, (*work).either},
			"abs":       ofBound((*work).amount),
			"text":      ofBound((*work).text),
			"length":    ofBound((*work).length),
			"isiri":     ofBound(isOf(func(kind int) bool { return kind == api.KIri })),
			"isblank":   ofBound(isOf(func(kind int) bool { return kind == api.KBlank })),
			"isliteral": ofBound(isOf(func(kind int) bool { return kind != api.KIri && kind != api.KBlank })),
		}
	}
	return map[string]function{
		"coalesce": {1, api.MaxParts, (*work).firstNotNull},
		"abs":      ofKnown((*work).amount),
		"text":     ofKnown((*work).text),
		"size":     ofKnown((*work).size),
		"head":     ofKnown((*work).head),
		"last":     ofKnown((*work).last),
		"labels":   ofKnown(kept(api.KNode, "\x00labels")),
		"type":     ofKnown(kept(api.KEdge, "\x00type")),
		"id":       ofKnown((*work).id),
	}
}

// ofOne makes a function of one argument of f, and tells none and err of KNull.
func ofOne(f func(w *work, v api.Value) (api.Value, api.Errno), err api.Errno) function {
	return function{1, 1, func(w *work, args []lazy) (api.Value, api.Errno) {
		v, failed := args[0]()
		switch {
		case failed != api.OK:
			return api.Value{}, failed
		case v.Kind == api.KNull:
			return api.Value{}, err
		}
		return f(w, v)
	}}
}

// ofKnown is ofOne in C: none stays none.
func ofKnown(f func(w *work, v api.Value) (api.Value, api.Errno)) function {
	return ofOne(f, api.OK)
}

// ofBound is ofOne in S: none is an error.
func ofBound(f func(w *work, v api.Value) (api.Value, api.Errno)) function {
	return ofOne(f, api.ErrUnbound)
}

// choose asks conditions in their turn, each with a value behind it, and tells the value of the first that is true, or the last argument's.
func (w *work) choose(args []lazy) (api.Value, api.Errno) {
	for len(args) > 1 {
		holds, err := w.condition(args[0])
		switch {
		case err != api.OK && w.lang != api.LangS:
			return api.Value{}, err
		case err == api.OK && holds == api.True:
			return args[1]()
		}
		args = args[2:]
	}
	return args[0]()
}

// either is the choice between two values; unlike in choose an error of the condition is told.
func (w *work) either(args []lazy) (api.Value, api.Errno) {
	holds, err := w.condition(args[0])
	switch {
	case err != api.OK:
		return api.Value{}, err
	case holds == api.True:
		return args[1]()
	}
	return args[2]()
}

func (w *work) firstNotNull(args []lazy) (api.Value, api.Errno) {
	for _, arg := range args {
		v, err := arg()
		if err != api.OK || v.Kind != api.KNull {
			return v, err
		}
	}
	return api.Value{}, api.OK
}

func (w *work) firstThatIs(args []lazy) (v api.Value, err api.Errno) {
	for _, arg := range args {
		v, err = arg()
		if err == api.OK {
			return v, api.OK
		}
	}
	return api.Value{}, err
}

func (w *work) size(v api.Value) (api.Value, api.Errno) {
	if v.Kind == api.KList {
		return number(int64(len(v.List))), api.OK
	}
	return w.length(v)
}

func (w *work) length(v api.Value) (api.Value, api.Errno) {
	if v.Kind == api.KText {
		return number(int64(len(v.Text))), api.OK
	}
	return api.Value{}, api.ErrType
}

func (w *work) head(v api.Value) (api.Value, api.Errno) {
	switch {
	case v.Kind != api.KList:
		return api.Value{}, api.ErrType
	case len(v.List) == 0:
		return api.Value{}, api.OK
	}
	return v.List[0], api.OK
}

func (w *work) last(v api.Value) (api.Value, api.Errno) {
	switch {
	case v.Kind != api.KList:
		return api.Value{}, api.ErrType
	case len(v.List) == 0:
		return api.Value{}, api.OK
	}
	return v.List[len(v.List)-1], api.OK
}

func (w *work) amount(v api.Value) (api.Value, api.Errno) {
	switch {
	case v.Kind == api.KDec:
		return api.Value{Kind: api.KDec, Text: strings.TrimPrefix(v.Text, "-")}, api.OK
	case v.Kind != api.KInt:
		return api.Value{}, api.ErrType
	case v.Int < 0:
		return value.Arith(w.lang, api.ESub, number(0), v)
	}
	return v, api.OK
}

func (w *work) text(v api.Value) (api.Value, api.Errno) {
	shown := value.Text(v)
	switch v.Kind {
	case api.KIri:
		if w.lang == api.LangS {
			shown = v.Text
		}
	case api.KList, api.KNode, api.KEdge:
		if w.lang != api.LangS {
			return api.Value{}, api.ErrType
		}
	}
	return api.Value{Kind: api.KText, Text: shown}, api.OK
}

func (w *work) id(v api.Value) (api.Value, api.Errno) {
	if v.Kind != api.KNode && v.Kind != api.KEdge {
		return api.Value{}, api.ErrType
	}
	return number(v.Int), api.OK
}

// kept tells what values of the kind have under the key; the keys that begin with a nought stand for what is no property.
func kept(kind int, key string) func(w *work, v api.Value) (api.Value, api.Errno) {
	return func(w *work, v api.Value) (api.Value, api.Errno) {
		if v.Kind != kind {
			return api.Value{}, api.ErrType
		}
		return orNull(w.env.Prop(v, key)), api.OK
	}
}

// isOf tells whether values are of the kinds for which holds says so.
func isOf(holds func(kind int) bool) func(w *work, v api.Value) (api.Value, api.Errno) {
	return func(w *work, v api.Value) (api.Value, api.Errno) {
		return truth(holds(v.Kind)), api.OK
	}
}
