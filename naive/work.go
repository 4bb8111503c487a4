package naive

import (
	"slices"

	"diptych/api"
	"diptych/expr"
	"diptych/graph"
	"diptych/rows"
	"diptych/triples"
	"diptych/value"
)

// work is the evaluation of one plan. Its tables share memory with one another, with the plan and with the data: what stands in them is never written over.
type work struct {
	lang    int
	triples *triples.Store // of LangS
	graph   *graph.Store   // of LangC
}

// over tells the work over those of the data that the language asks.
func over(lang int, d api.Data) (*work, api.Errno) {
	w, err := &work{lang: lang}, api.OK
	if lang == api.LangS {
		w.triples, err = triples.Load(d.T)
	} else {
		w.graph, err = graph.Load(d.G)
	}
	return w, err
}

// answer tells the table of the whole plan, in memory of its own.
func (w *work) answer(p api.Plan) (t api.Table, err api.Errno) {
	defer func() {
		if recover() != nil { // no call that is exported may panic
			t, err = api.Table{}, api.ErrEval
		}
	}()
	t = w.table(p, api.Table{Rows: [][]api.Value{nil}})
	if p.Op != api.POrder && p.Op != api.PSlice {
		t.Rows = w.canon(t.Rows)
	}
	return ownTable(t), api.OK
}

// table tells what p means, its PUnits being the unit: a table of one row. Only the rows of POrder and PSlice have an order.
func (w *work) table(p api.Plan, unit api.Table) api.Table {
	in := mapped(p.In, func(in api.Plan) api.Table { return w.table(in, unit) })
	switch p.Op {
	case api.PUnit:
		return unit
	case api.PValues:
		return api.Table{Vars: p.Vars, Rows: p.Rows}
	case api.PBgp:
		return w.fitting(p)
	case api.PMatch:
		return w.matched(p, in[0])
	case api.PJoin:
		return rows.Join(in[0], in[1])
	case api.PLeft:
		return w.joinedLeft(p.E[0], in[0], in[1])
	case api.PUnion:
		return rows.Union(in[0], in[1])
	case api.PMinus:
		return rows.Minus(in[0], in[1])
	case api.PFilter:
		return w.filtered(p.E[0], in[0])
	case api.PExtend:
		return w.extended(p, in[0])
	case api.PUnwind:
		return w.unwound(p, in[0])
	case api.PGroup:
		return w.grouped(p, in[0])
	case api.PDistinct:
		return rows.Distinct(in[0])
	case api.POrder:
		return w.ordered(p.Sorts, in[0])
	case api.PSlice:
		return w.sliced(p, in[0])
	}
	return rows.Project(in[0], p.Vars)
}

func (w *work) filtered(e api.Expr, in api.Table) api.Table {
	told := api.Table{Vars: in.Vars}
	for _, row := range in.Rows {
		if w.holds(e, in.Vars, row) {
			told.Rows = append(told.Rows, row)
		}
	}
	return told
}

func (w *work) extended(p api.Plan, in api.Table) api.Table {
	return longer(in, p.Var, func(row []api.Value) []api.Value {
		v := w.value(p.E[0], in.Vars, row)
		if !value.Check(v) { // a text of S may be longer than a value may: expressions would see none there
			v = api.Value{}
		}
		return []api.Value{v}
	})
}

func (w *work) unwound(p api.Plan, in api.Table) api.Table {
	return longer(in, p.Var, func(row []api.Value) []api.Value {
		v := w.value(p.E[0], in.Vars, row)
		if v.Kind != api.KList && v.Kind != api.KNull {
			w.heed(api.ErrType)
		}
		return v.List
	})
}

// longer tells the table with a column more: a row for each of the values that tell has for a row of it.
func longer(in api.Table, name string, tell func(row []api.Value) []api.Value) api.Table {
	told := api.Table{Vars: slices.Concat(in.Vars, []string{name})}
	for _, row := range in.Rows {
		for _, v := range tell(row) {
			told.Rows = append(told.Rows, slices.Concat(row, []api.Value{v}))
		}
	}
	return told
}

// holds tells whether the condition is true of the row.
func (w *work) holds(e api.Expr, vars []string, row []api.Value) bool {
	truth, err := expr.Truth(w.lang, e, scene{w, vars, row})
	w.heed(err)
	return truth == api.True
}

// value tells the value of e for the row; in S none where it errs.
func (w *work) value(e api.Expr, vars []string, row []api.Value) api.Value {
	v, err := expr.Eval(w.lang, e, scene{w, vars, row})
	w.heed(err)
	return v
}

// heed ends the walk at an error of C; in S none comes to anything.
func (w *work) heed(err api.Errno) {
	if err != api.OK && w.lang == api.LangC {
		panic(api.ErrEval)
	}
}
