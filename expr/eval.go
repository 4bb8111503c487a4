package expr

import (
	"strings"

	"diptych/api"
	"diptych/logic"
	"diptych/value"
)

// work is one evaluation.
type work struct {
	lang  int
	env   Env
	calls map[string]function
}

// lazy evaluates an argument when it is asked for.
type lazy func() (api.Value, api.Errno)

// evaluate is Eval, but what it tells may share memory with e and with what env tells.
func evaluate(lang int, e api.Expr, env Env) (api.Value, api.Errno) {
	c := checker{lang: lang, left: api.MaxParts}
	if env == nil || !c.mayBe(e, 1, noAgg) {
		return api.Value{}, api.ErrArg
	}
	w := work{lang: lang, env: env, calls: c.calls}
	return w.eval(e)
}

func (w *work) eval(e api.Expr) (api.Value, api.Errno) {
	switch e.Op {
	case api.ELit:
		return e.V, api.OK
	case api.EVar:
		return w.variable(e.Text)
	case api.EExists:
		return w.exists(e)
	case api.EIsNull:
		return w.isNull(e)
	case api.ENot, api.EAnd, api.EOr, api.EXor:
		return w.junction(e)
	case api.ECase:
		return w.choose(w.asked(e.Args))
	case api.ECall:
		return w.calls[e.Text].tell(w, w.asked(e.Args))
	}
	args, err := w.all(e.Args)
	if err != api.OK {
		return api.Value{}, err
	}
	return w.operate(e, args)
}

// operate tells what those Ops make of their arguments that ask for all of them.
func (w *work) operate(e api.Expr, args []api.Value) (api.Value, api.Errno) {
	switch e.Op {
	case api.EProp:
		return w.property(args[0], e.Text)
	case api.EList:
		return listOf(args)
	case api.EEq, api.ENe, api.ELt, api.ELe, api.EGt, api.EGe:
		return w.compare(e.Op, args[0], args[1])
	case api.EIn:
		return w.isIn(args[0], args[1])
	case api.EStarts, api.EEnds, api.EContains:
		return w.search(e.Op, args[0], args[1])
	case api.ENeg:
		return value.Arith(w.lang, api.ESub, number(0), args[0])
	}
	return value.Arith(w.lang, e.Op, args[0], args[1])
}

// asked tells for each argument how it is evaluated.
func (w *work) asked(l []api.Expr) []lazy {
	var args []lazy
	for _, e := range l {
		args = append(args, func() (api.Value, api.Errno) { return w.eval(e) })
	}
	return args
}

// all evaluates all of l, behind an error, too, and tells the first error.
func (w *work) all(l []api.Expr) ([]api.Value, api.Errno) {
	values, first := make([]api.Value, len(l)), api.OK
	for i, e := range l {
		v, err := w.eval(e)
		if first == api.OK {
			first = err
		}
		values[i] = v
	}
	return values, first
}

func (w *work) variable(name string) (api.Value, api.Errno) {
	v := orNull(w.env.Var(name))
	if w.lang == api.LangS && v.Kind == api.KNull {
		return api.Value{}, api.ErrUnbound
	}
	return v, api.OK
}

func (w *work) exists(e api.Expr) (api.Value, api.Errno) {
	there, err := w.env.Exists(e.Plan[0])
	if err != api.OK {
		return api.Value{}, err
	}
	return truth(there != e.Flag), api.OK
}

func (w *work) isNull(e api.Expr) (api.Value, api.Errno) {
	v, err := w.eval(e.Args[0])
	unbound := w.lang == api.LangS && err == api.ErrUnbound
	if err != api.OK && !unbound {
		return api.Value{}, err
	}
	none := unbound || v.Kind == api.KNull
	return truth(none != e.Flag), api.OK
}

func (w *work) property(v api.Value, key string) (api.Value, api.Errno) {
	switch v.Kind {
	case api.KNull:
		return v, api.OK
	case api.KNode, api.KEdge:
		return orNull(w.env.Prop(v, key)), api.OK
	}
	return api.Value{}, api.ErrType
}

// listOf tells the list of values that may be each.
func listOf(l []api.Value) (api.Value, api.Errno) {
	v := api.Value{Kind: api.KList, List: l}
	if !value.Check(v) {
		return api.Value{}, api.ErrOverflow
	}
	return v, api.OK
}

func (w *work) compare(op int, a, b api.Value) (api.Value, api.Errno) {
	if w.lang == api.LangS && (a.Kind == api.KNull || b.Kind == api.KNull) {
		return api.Value{}, api.ErrUnbound
	}
	return w.said(w.compared(op, a, b))
}

func (w *work) compared(op int, a, b api.Value) int {
	switch op {
	case api.EEq:
		return value.Equal(w.lang, a, b)
	case api.ENe:
		return logic.Not(value.Equal(w.lang, a, b))
	case api.ELt:
		return value.Less(w.lang, a, b)
	case api.EGt:
		return value.Less(w.lang, b, a)
	case api.ELe:
		return logic.Or(value.Less(w.lang, a, b), value.Equal(w.lang, a, b))
	}
	return logic.Or(value.Less(w.lang, b, a), value.Equal(w.lang, a, b))
}

// said tells a comparison's truth value as a value.
func (w *work) said(a int) (api.Value, api.Errno) {
	if w.lang == api.LangS && a == api.Unknown {
		return api.Value{}, api.ErrType
	}
	return logic.Back(a)
}

func (w *work) isIn(x, l api.Value) (api.Value, api.Errno) {
	switch l.Kind {
	case api.KNull:
		return l, api.OK
	case api.KList:
		return w.said(logic.Any(func(yield func(int) bool) {
			for _, v := range l.List {
				if !yield(value.Equal(w.lang, x, v)) {
					return
				}
			}
		}))
	}
	return api.Value{}, api.ErrType
}

func (w *work) search(op int, a, b api.Value) (api.Value, api.Errno) {
	switch {
	case a.Kind == api.KText && b.Kind == api.KText:
		return truth(found(op, a.Text, b.Text)), api.OK
	case w.lang != api.LangS:
		return api.Value{}, api.OK
	case a.Kind == api.KNull || b.Kind == api.KNull:
		return api.Value{}, api.ErrUnbound
	}
	return api.Value{}, api.ErrType
}

func found(op int, s, part string) bool {
	switch op {
	case api.EStarts:
		return strings.HasPrefix(s, part)
	case api.EEnds:
		return strings.HasSuffix(s, part)
	}
	return strings.Contains(s, part)
}

// orNull tells v, or KNull in place of what may not be.
func orNull(v api.Value) api.Value {
	if !value.Check(v) {
		return api.Value{}
	}
	return v
}

func truth(holds bool) api.Value {
	return api.Value{Kind: api.KBool, Bool: holds}
}

func number(n int64) api.Value {
	return api.Value{Kind: api.KInt, Int: n}
}
