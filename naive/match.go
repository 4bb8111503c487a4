package naive

import (
	"iter"
	"slices"

	"diptych/api"
	"diptych/graph"
)

// path is the pattern of a PMatch.
type path struct {
	graph *graph.Store
	plan  api.Plan
	vars  []string // the plan's
	known []string // those that have a value so far
	steps []step
}

// matched tells p over the rows of in.
func (w *work) matched(p api.Plan, in api.Table) api.Table {
	told := api.Table{Vars: union(in.Vars, spotVars(p), edgeVars(p))}
	steps := w.stepsOf(p, told.Vars, in.Vars)
	lacking := make([]api.Value, len(told.Vars)-len(in.Vars))
	for _, row := range in.Rows {
		row = slices.Concat(row, lacking)
		before := len(told.Rows)
		for way := range ways(row, steps) {
			if every(p.E, func(e api.Expr) bool { return w.holds(e, told.Vars, way) }) {
				told.Rows = append(told.Rows, way)
			}
		}
		if p.Flag && len(told.Rows) == before {
			told.Rows = append(told.Rows, row)
		}
	}
	return told
}

// stepsOf tells how p gives its Spots nodes and its Hops edges, some variables having values ahead of it.
func (w *work) stepsOf(p api.Plan, vars, known []string) []step {
	m := &path{graph: w.graph, plan: p, vars: vars, known: known}
	for _, name := range spotVars(p) {
		if m.isKnown(name) {
			m.add(m.stand(name))
		}
	}
	for _, hop := range p.Hops {
		if !m.isKnown(hop.From) && !m.isKnown(hop.To) {
			m.add(m.place(hop.From), hop.From)
		}
		if !m.isKnown(hop.From) {
			hop.From, hop.To, hop.Dir = hop.To, hop.From, -hop.Dir
		}
		m.add(m.follow(hop))
		if !m.isKnown(hop.To) {
			m.add(m.stand(hop.To), hop.To)
		}
	}
	for _, name := range spotVars(p) {
		if !m.isKnown(name) {
			m.add(m.place(name))
		}
	}
	return m.steps
}

// add puts a step behind the others; from then on these names are known.
func (m *path) add(s step, names ...string) {
	m.steps = append(m.steps, s)
	m.known = slices.Concat(m.known, names)
}

func (m *path) isKnown(name string) bool {
	return slices.Contains(m.known, name)
}

func (m *path) column(name string) int {
	return slices.Index(m.vars, name)
}

// labels tells those of the Spot.
func (m *path) labels(name string) []string {
	return m.plan.Spots[slices.Index(spotVars(m.plan), name)].Labels
}

// stand lets a row be whose Spot has a node with its labels.
func (m *path) stand(name string) step {
	column, labels := m.column(name), m.labels(name)
	return func(row []api.Value) iter.Seq[[]api.Value] {
		return func(yield func([]api.Value) bool) {
			if m.isNode(row[column], labels) {
				yield(row)
			}
		}
	}
}

// isNode tells whether v is a node of the graph that has all these labels.
func (m *path) isNode(v api.Value, labels []string) bool {
	if v.Kind != api.KNode {
		return false
	}
	n, there := m.graph.Node(v.Int)
	return there && every(labels, func(label string) bool { return slices.Contains(n.Labels, label) })
}

// place gives the Spot each node that it may have.
func (m *path) place(name string) step {
	column, labels := m.column(name), m.labels(name)
	return func(row []api.Value) iter.Seq[[]api.Value] {
		return func(yield func([]api.Value) bool) {
			for _, id := range m.graph.Labeled(labels) {
				if !yield(with(row, column, api.Value{Kind: api.KNode, Int: id})) {
					return
				}
			}
		}
	}
}

// follow gives the Hop each edge that it may have at its From's node, and its To the node at the other end.
func (m *path) follow(hop api.Hop) step {
	from, edge, to := m.column(hop.From), m.column(hop.Edge), m.column(hop.To)
	taken := mapped(edgeVars(m.plan), m.column)
	return func(row []api.Value) iter.Seq[[]api.Value] {
		return func(yield func([]api.Value) bool) {
			for _, id := range m.graph.Hops(row[from].Int, hop.Dir, hop.Types) {
				v := api.Value{Kind: api.KEdge, Int: id}
				end := m.otherEnd(id, row[from].Int)
				again := slices.ContainsFunc(taken, func(column int) bool { return isSame(row[column], v) })
				apart := isBound(row[to]) && !isSame(row[to], end)
				if !again && !apart && !yield(with(with(row, edge, v), to, end)) {
					return
				}
			}
		}
	}
}

// otherEnd tells the node to which the edge leads from the node.
func (m *path) otherEnd(edge, node int64) api.Value {
	e, _ := m.graph.Edge(edge)
	if e.From == node {
		node = e.To
	} else {
		node = e.From
	}
	return api.Value{Kind: api.KNode, Int: node}
}

func spotVars(p api.Plan) []string {
	return mapped(p.Spots, func(s api.Spot) string { return s.Var })
}

func edgeVars(p api.Plan) []string {
	return mapped(p.Hops, func(h api.Hop) string { return h.Edge })
}
