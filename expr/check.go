package expr

import (
	"diptych/api"
	"diptych/value"
)

// checker counts the expressions that it has seen.
type checker struct {
	lang  int
	left  int                 // how many more there may be
	calls map[string]function // nil until one is asked for
}

// Whether aggregates may stand in an expression.
const (
	noAgg   = false
	withAgg = true
)

// mayBe tells whether an expression may be that lies so deep.
func (c *checker) mayBe(e api.Expr, deep int, agg bool) bool {
	c.left--
	if deep > api.MaxDeep || len(e.Args) > c.left || e.Op == api.EAgg && !agg || !c.fits(e) {
		return false
	}
	for _, arg := range e.Args {
		if c.left == 0 || !c.mayBe(arg, deep+1, agg && e.Op != api.EAgg) {
			return false
		}
	}
	return true
}

// fits tells whether e has what its Op names and nothing else; what its arguments have is not looked at.
func (c *checker) fits(e api.Expr) bool {
	rest, args, ok := e, len(e.Args), false
	switch e.Op {
	case api.ELit:
		rest.V = api.Value{}
		ok = args == 0 && value.Check(e.V)
	case api.EVar:
		rest.Text = ""
		ok = args == 0 && isName(e.Text)
	case api.EProp:
		rest.Text = ""
		ok = args == 1 && c.isPaths() && e.Text != "" && len(e.Text) <= api.MaxText
	case api.EList:
		ok = c.isPaths()
	case api.EIsNull:
		rest.Flag = false
		ok = args == 1
	case api.ECall:
		rest.Text = ""
		ok = c.isCall(e.Text, args)
	case api.ECase:
		ok = args >= 3 && args%2 == 1
	case api.EAgg:
		rest.Text, rest.Flag = "", false
		ok = c.isAggregate(e.Text, args)
	case api.EExists:
		rest.Flag, rest.Plan = false, nil
		ok = args == 0 && len(e.Plan) == 1 && e.Plan[0].Op != api.PNone
	default:
		ok = c.isOperation(e.Op, args)
	}
	return ok && isBare(rest)
}

func (c *checker) isPaths() bool {
	return c.lang != api.LangS
}

func (c *checker) isCall(name string, args int) bool {
	if c.calls == nil {
		c.calls = functions(c.lang)
	}
	f, there := c.calls[name]
	return there && args >= f.least && args <= f.most
}

func (c *checker) isAggregate(name string, args int) bool {
	switch name {
	case "count":
		return args <= 1
	case "sum", "min", "max", "avg":
		return args == 1
	case "collect":
		return args == 1 && c.isPaths()
	case "sample", "concat":
		return args == 1 && !c.isPaths()
	}
	return false
}

// isOperation tells whether op is one of those that have arguments and nothing else, and has so many.
func (c *checker) isOperation(op, args int) bool {
	switch op {
	case api.ENot, api.ENeg:
		return args == 1
	case api.EAnd, api.EOr, api.EEq, api.ENe, api.ELt, api.ELe, api.EGt, api.EGe,
		api.EAdd, api.ESub, api.EMul, api.EDiv, api.EStarts, api.EEnds, api.EContains:
		return args == 2
	case api.EXor, api.EMod, api.EIn:
		return args == 2 && c.isPaths()
	}
	return false
}

// isBare tells whether e has nothing beside its Op and arguments.
func isBare(e api.Expr) bool {
	return e.Text == "" && value.Same(e.V, api.Value{}) && !e.Flag &&
		len(e.Plan) == 0 && len(e.Match) == 0 && len(e.Group) == 0
}

// isName tells whether s is a name: what a blank node's text must be.
func isName(s string) bool {
	return value.Check(api.Value{Kind: api.KBlank, Text: s})
}

// neverErrs tells whether e, which may be in C, has none but Ops that never err there.
func neverErrs(e api.Expr) bool {
	switch e.Op {
	case api.ELit, api.EVar, api.EIsNull, api.EEq, api.ENe, api.ELt, api.ELe, api.EGt, api.EGe:
		return every(e.Args, neverErrs)
	case api.ENot, api.EAnd, api.EOr, api.EXor:
		return every(e.Args, isCondition) && every(e.Args, neverErrs)
	}
	return false
}

// isCondition tells whether e's value is a KBool or KNull for its Op alone.
func isCondition(e api.Expr) bool {
	switch e.Op {
	case api.ELit:
		return e.V.Kind == api.KBool || e.V.Kind == api.KNull
	case api.EIsNull, api.EEq, api.ENe, api.ELt, api.ELe, api.EGt, api.EGe, api.ENot, api.EAnd, api.EOr, api.EXor:
		return true
	}
	return false
}

func every(l []api.Expr, holds func(api.Expr) bool) bool {
	for _, e := range l {
		if !holds(e) {
			return false
		}
	}
	return true
}
