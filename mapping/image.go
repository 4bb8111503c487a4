package mapping

import (
	"diptych/api"
	"diptych/value"
)

// Labels of nodes, by what they stand for.
const (
	labelIri   = "Iri"
	labelBlank = "Blank"
	labelLit   = "Lit"
	labelVal   = "Val"
)

// Keys of nodes' properties.
const (
	keyValue = "v"
	keyExtra = "x"
)

// imageOf tells the graph of l: triples in their order, each once.
func imageOf(l []api.Triple) api.Graph {
	var ends []api.Value
	for _, t := range l {
		ends = append(ends, t.S, t.O)
	}
	nodes := numbersOf(ends, compareValues)
	var g api.Graph
	for n, v := range nodes.keys {
		g.Nodes = append(g.Nodes, nodeOf(int64(n), v))
	}
	for n, t := range l {
		g.Edges = append(g.Edges, api.Edge{ID: int64(n), From: nodes.of(t.S), To: nodes.of(t.O), Type: t.P.Text})
	}
	return g
}

func compareValues(a, b api.Value) int {
	return value.Order(api.LangS, a, b)
}

// nodeOf tells the node with this number that stands for v.
func nodeOf(id int64, v api.Value) api.Node {
	label, props := labelVal, []api.Pair{{Key: keyValue, V: v}}
	switch v.Kind {
	case api.KIri:
		label, props = labelIri, []api.Pair{textProp(keyValue, v.Text)}
	case api.KBlank:
		label, props = labelBlank, []api.Pair{textProp(keyValue, v.Text)}
	case api.KLit:
		label, props = labelLit, []api.Pair{textProp(keyValue, v.Text), textProp(keyExtra, v.Extra)}
	}
	return api.Node{ID: id, Labels: []string{label}, Props: props}
}

func textProp(key, s string) api.Pair {
	return api.Pair{Key: key, V: api.Value{Kind: api.KText, Text: s}}
}
