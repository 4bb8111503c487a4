package join

import (
	"diptych/api"
	"diptych/batch"
	"diptych/expr"
)

// condition is what is asked of joined rows.
type condition struct {
	lang int
	on   api.Expr
	env  expr.Env
}

func (c condition) mayBe() bool {
	return c.env != nil && expr.Check(c.lang, c.on) && !expr.HasAgg(c.on)
}

// held tells the rows of t for which the condition is true, in new memory.
func (c condition) held(t api.Table) ([][]api.Value, api.Errno) {
	b, err := batch.Of(t)
	if err == api.OK {
		err = b.Filter(c.lang, c.on, c.env)
	}
	if err != api.OK {
		return nil, err
	}
	return b.Table().Rows, api.OK
}

// joinedLeft tells, for each row of a, the rows that it makes with its partners, as far as c is true of them; if there are none, it alone.
func (p pairs) joinedLeft(c condition) (api.Table, api.Errno) {
	told := api.Table{Vars: ownVars(p.vars)}
	find := newIndex(p).candidates
	unbound := make([]api.Value, len(p.b.Vars))
	for _, row := range p.a.Rows {
		joined := api.Table{Vars: p.vars}
		for partner := range p.partners(row, find) {
			joined.Rows = append(joined.Rows, p.merged(row, partner))
		}
		held, err := c.held(joined)
		if err != api.OK {
			return api.Table{}, err
		}
		if len(held) == 0 {
			held = append(held, ownRow(p.merged(row, unbound)))
		}
		told.Rows = append(told.Rows, held...)
	}
	return told, api.OK
}
