package batch

import (
	"slices"

	"diptych/api"
	"diptych/expr"
	"diptych/value"
)

// scene is where an expression is evaluated: at a row; what is no variable there is asked of the Env that was handed in.
type scene struct {
	expr.Env
	vars    []string
	columns []*column
	row     int
}

// Var tells the row's value of the variable.
func (s scene) Var(name string) api.Value {
	i := slices.Index(s.vars, name)
	if i < 0 {
		return s.Env.Var(name)
	}
	return cell(s.columns[i], s.row)
}

// visit calls do at each chosen row, until it tells an error.
func (b *Batch) visit(lang int, e api.Expr, env expr.Env, do func(at scene) api.Errno) (err api.Errno) {
	if env == nil || !expr.Check(lang, e) || expr.HasAgg(e) {
		return api.ErrArg
	}
	defer func() {
		if recover() != nil { // env's own calls may panic (a nil pointer in an Env is no nil Env), those of this package may not
			err = api.ErrArg
		}
	}()
	for _, row := range b.chosen {
		err := do(scene{env, b.vars, b.columns, row})
		if err != api.OK {
			return err
		}
	}
	return api.OK
}

// value tells the value of e; in S none where it errs.
func (s scene) value(lang int, e api.Expr) (api.Value, api.Errno) {
	v, err := expr.Eval(lang, e, s)
	switch {
	case err != api.OK && lang != api.LangS:
		return api.Value{}, err
	case err != api.OK || !value.Check(v): // a text of S may be longer than a value may: expressions would see none there
		return api.Value{}, api.OK
	}
	return v, api.OK
}

// list tells the elements of the list that e is; in S none where it is something else.
func (s scene) list(lang int, e api.Expr) ([]api.Value, api.Errno) {
	v, err := s.value(lang, e)
	if err == api.OK && v.Kind != api.KList && v.Kind != api.KNull && lang != api.LangS {
		return nil, api.ErrType
	}
	return v.List, err
}
