package expr

import (
	"diptych/api"
	"diptych/logic"
)

// junction tells what ENot, EAnd, EOr, EXor make of their arguments' truths.
func (w *work) junction(e api.Expr) (api.Value, api.Errno) {
	if w.lang == api.LangS {
		truths, first := w.truthsOrUnknown(e.Args)
		joined := join(e.Op, truths)
		if joined == api.Unknown {
			return api.Value{}, first
		}
		return logic.Back(joined)
	}
	truths, err := w.truths(e.Args)
	if err != api.OK {
		return api.Value{}, err
	}
	return logic.Back(join(e.Op, truths))
}

func join(op int, truths []int) int {
	switch op {
	case api.ENot:
		return logic.Not(truths[0])
	case api.EAnd:
		return logic.And(truths[0], truths[1])
	case api.EOr:
		return logic.Or(truths[0], truths[1])
	}
	return logic.Xor(truths[0], truths[1])
}

// truths asks for truths when all of l are evaluated: an argument that errs is told ahead of one that says no truth.
func (w *work) truths(l []api.Expr) ([]int, api.Errno) {
	values, err := w.all(l)
	if err != api.OK {
		return nil, err
	}
	var truths []int
	for _, v := range values {
		a, err := logic.Of(w.lang, v)
		if err != api.OK {
			return nil, err
		}
		truths = append(truths, a)
	}
	return truths, api.OK
}

// truthsOrUnknown tells Unknown for an argument that errs, and the first such error.
func (w *work) truthsOrUnknown(l []api.Expr) (truths []int, first api.Errno) {
	for _, e := range l {
		a, err := w.condition(func() (api.Value, api.Errno) { return w.eval(e) })
		if err != api.OK {
			a = api.Unknown
		}
		if first == api.OK {
			first = err
		}
		truths = append(truths, a)
	}
	return truths, first
}

// condition tells the truth of what arg tells.
func (w *work) condition(arg lazy) (int, api.Errno) {
	v, err := arg()
	if err != api.OK {
		return api.False, err
	}
	return logic.Of(w.lang, v)
}
