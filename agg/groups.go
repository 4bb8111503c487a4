package agg

import (
	"slices"

	"diptych/api"
	"diptych/expr"
	"diptych/naive"
	"diptych/rows"
	"diptych/value"
)

// mayGroup tells whether rows under vars may be grouped by keys, and whether aggs may be told of the groups.
func mayGroup(lang int, vars, keys []string, aggs []api.Agg) bool {
	told := api.Table{Vars: slices.Concat(keys, names(aggs))}
	return rows.Check(told) &&
		every(keys, func(key string) bool { return slices.Contains(vars, key) }) &&
		every(aggs, func(a api.Agg) bool { return a.E.Op == api.EAgg && expr.Check(lang, a.E) })
}

func names(aggs []api.Agg) []string {
	return mapped(aggs, func(a api.Agg) string { return a.Var })
}

// columns tells the places of the keys, all of which are there, among vars.
func columns(keys, vars []string) []int {
	return mapped(keys, func(key string) int { return slices.Index(vars, key) })
}

// group is the rows that have the same cells in the keys.
type group struct {
	cells []api.Value
	rows  int
	args  []argument // of each aggregate
}

// groupKey stands for a group: it is the same one just for the same cells.
type groupKey struct {
	bound uint64 // which of the cells are, a bit each: there are no more than MaxVars
	codes string // the encodings of these
}

func keyOf(cells []api.Value) groupKey {
	var key groupKey
	var codes []byte
	for i, v := range cells {
		if code, err := value.Encode(v); err == api.OK && isBound(v) {
			key.bound |= 1 << i
			codes = append(codes, code...)
		}
	}
	key.codes = string(codes)
	return key
}

// grouping gathers the groups of a table's rows.
type grouping struct {
	lang    int
	columns []int // of the keys
	aggs    []api.Agg
	groups  []group
	places  map[groupKey]int // among the groups
}

func newGrouping(lang int, columns []int, aggs []api.Agg) *grouping {
	g := &grouping{lang: lang, columns: columns, aggs: aggs, places: map[groupKey]int{}}
	if len(columns) == 0 { // all rows are one group, if there are none, too
		g.groupOf(nil)
	}
	return g
}

func (g *grouping) groupOf(row []api.Value) *group {
	cells := mapped(g.columns, func(column int) api.Value { return row[column] })
	key := keyOf(cells)
	place, there := g.places[key]
	if !there {
		place = len(g.groups)
		g.places[key] = place
		g.groups = append(g.groups, group{cells: cells, args: make([]argument, len(g.aggs))})
	}
	return &g.groups[place]
}

// take puts a row into its group.
func (g *grouping) take(at scene) api.Errno {
	in := g.groupOf(at.row)
	in.rows++
	for i, a := range g.aggs {
		if err := in.args[i].take(g.lang, a.E, at); err != api.OK {
			return err
		}
	}
	return api.OK
}

// rows tells a row for each group, in new memory, sorted; in C the first error.
func (g *grouping) rows() ([][]api.Value, api.Errno) {
	slices.SortFunc(g.groups, func(a, b group) int { return rows.Compare(g.lang, a.cells, b.cells) })
	var l [][]api.Value
	for _, of := range g.groups {
		row := mapped(of.cells, own)
		for i, a := range g.aggs {
			v, err := of.args[i].aggregate(g.lang, a.E, of.rows)
			if err != api.OK && g.lang != api.LangS {
				return nil, err
			}
			row = append(row, v)
		}
		l = append(l, row)
	}
	return l, api.OK
}

// argument is what an aggregate's argument comes to in a group.
type argument struct {
	values []api.Value // those that count
	errs   bool        // whether one erred (in S) that the aggregate does not pass
}

// take evaluates the argument of e at a row; in C it tells its error.
func (a *argument) take(lang int, e api.Expr, at scene) api.Errno {
	if len(e.Args) == 0 {
		return api.OK
	}
	v, err := expr.Eval(lang, e.Args[0], at)
	switch {
	case err != api.OK && lang != api.LangS:
		return err
	case err != api.OK:
		a.errs = a.errs || !passesErrors(e.Text)
	case lang == api.LangS || isBound(v):
		a.values = append(a.values, v)
	}
	return api.OK
}

// passesErrors tells whether the aggregate leaves out, in S, values of its argument that err.
func passesErrors(name string) bool {
	return name == "count" || name == "sample"
}

// aggregate tells the value of e for a group of so many rows; in S unbound where it errs.
func (a argument) aggregate(lang int, e api.Expr, rows int) (api.Value, api.Errno) {
	if a.errs {
		return api.Value{}, api.OK
	}
	return naive.Aggregate(lang, e, a.values, rows)
}
