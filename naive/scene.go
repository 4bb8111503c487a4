package naive

import (
	"slices"

	"diptych/api"
)

// Keys under which expressions ask for what is no property.
const (
	labelsKey = "\x00labels"
	typeKey   = "\x00type"
)

// scene is where an expression is evaluated: at a row.
type scene struct {
	work *work
	vars []string
	row  []api.Value
}

// Var tells the row's value of the variable.
func (s scene) Var(name string) api.Value {
	column := slices.Index(s.vars, name)
	if column < 0 {
		return api.Value{}
	}
	return s.row[column]
}

// Prop tells a property of the graph; there is none in S.
func (s scene) Prop(v api.Value, key string) api.Value {
	g := s.work.graph
	switch {
	case g == nil:
		return api.Value{}
	case v.Kind == api.KNode && key == labelsKey:
		n, there := g.Node(v.Int)
		if there {
			return api.Value{Kind: api.KList, List: mapped(n.Labels, text)}
		}
	case v.Kind == api.KEdge && key == typeKey:
		e, there := g.Edge(v.Int)
		if there {
			return text(e.Type)
		}
	}
	return g.Prop(v, key)
}

// Exists tells whether the plan has a row, with this one in the place of its PUnits.
func (s scene) Exists(p api.Plan) (bool, api.Errno) {
	t := s.work.table(p, api.Table{Vars: s.vars, Rows: [][]api.Value{s.row}})
	return len(t.Rows) > 0, api.OK
}

func text(s string) api.Value {
	return api.Value{Kind: api.KText, Text: s}
}
