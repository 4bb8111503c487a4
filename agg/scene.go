package agg

import (
	"slices"

	"diptych/api"
	"diptych/expr"
)

// scene is where an expression is evaluated: at a row; what is no variable there is asked of the Env that was handed in.
type scene struct {
	expr.Env
	vars []string
	row  []api.Value
}

// Var tells the row's value of the variable.
func (s scene) Var(name string) api.Value {
	column := slices.Index(s.vars, name)
	if column < 0 {
		return s.Env.Var(name)
	}
	return s.row[column]
}

// each calls do at every row of t, until it tells an error.
func each(t api.Table, env expr.Env, do func(at scene) api.Errno) (err api.Errno) {
	defer func() {
		if recover() != nil { // env's own calls may panic (a nil pointer in an Env is no nil Env), those of this package may not
			err = api.ErrArg
		}
	}()
	for _, row := range t.Rows {
		if err := do(scene{env, t.Vars, row}); err != api.OK {
			return err
		}
	}
	return api.OK
}
