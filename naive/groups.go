package naive

import (
	"slices"

	"diptych/api"
	"diptych/expr"
	"diptych/value"
)

// group is the rows that have the same cells in some variables.
type group struct {
	key  []api.Value
	rows [][]api.Value
}

// groupsOf tells the rows parted by their cells in the variables; without variables all are one group, if there are none, too.
func groupsOf(vars []string, in api.Table) []group {
	var groups []group
	places := map[string]int{} // by the encodings of the groups' keys
	take := func(key []api.Value) int {
		code := encoding(key)
		place, there := places[code]
		if !there {
			place = len(groups)
			places[code] = place
			groups = append(groups, group{key: key})
		}
		return place
	}
	if len(vars) == 0 {
		take(nil)
	}
	from := columns(vars, in.Vars)
	for _, row := range in.Rows {
		place := take(mapped(from, func(column int) api.Value { return row[column] }))
		groups[place].rows = append(groups[place].rows, row)
	}
	return groups
}

// encoding tells bytes for a list of values that may be: others for every other list of as many.
func encoding(l []api.Value) string {
	var all []byte
	for _, v := range l {
		if code, err := value.Encode(v); err == api.OK {
			all = append(all, code...)
		}
	}
	return string(all)
}

// grouped tells a row for each group of in's rows.
func (w *work) grouped(p api.Plan, in api.Table) api.Table {
	names := mapped(p.Aggs, func(a api.Agg) string { return a.Var })
	told := api.Table{Vars: slices.Concat(p.Vars, names)}
	for _, g := range groupsOf(p.Vars, in) {
		aggregates := mapped(p.Aggs, func(a api.Agg) api.Value { return w.aggregate(a.E, in.Vars, g.rows) })
		told.Rows = append(told.Rows, slices.Concat(g.key, aggregates))
	}
	return told
}

// aggregate tells what e makes of the rows of a group; in S none where it errs.
func (w *work) aggregate(e api.Expr, vars []string, l [][]api.Value) api.Value {
	values, ok := w.arguments(e, vars, l)
	if !ok {
		return api.Value{}
	}
	v, err := Aggregate(w.lang, e, values, len(l))
	w.heed(err)
	return v
}

// arguments tells the values of e's argument that count, and whether none is missing without which e errs.
func (w *work) arguments(e api.Expr, vars []string, l [][]api.Value) (values []api.Value, ok bool) {
	if len(e.Args) == 0 {
		return nil, true
	}
	ok = true
	for _, row := range l {
		v, err := expr.Eval(w.lang, e.Args[0], scene{w, vars, row})
		w.heed(err)
		switch {
		case err != api.OK:
			ok = ok && passesErrors(e.Text)
		case w.lang == api.LangS || isBound(v):
			values = append(values, v)
		}
	}
	return values, ok
}

// passesErrors tells whether the aggregate leaves out, in S, values of its argument that err.
func passesErrors(name string) bool {
	return name == "count" || name == "sample"
}
