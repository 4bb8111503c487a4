package graph

import (
	"diptych/api"
	"diptych/value"
)

const maxNodes = 2 * api.MaxData

// mayBe tells whether g may be.
func mayBe(g api.Graph) bool {
	if len(g.Nodes) > maxNodes || len(g.Edges) > api.MaxData {
		return false
	}
	nodes := mapped(g.Nodes, func(n api.Node) int64 { return n.ID })
	edges := mapped(g.Edges, func(e api.Edge) int64 { return e.ID })
	if !areUnlike(nodes) || !areUnlike(edges) {
		return false
	}
	there := setOf(nodes)
	return allHold(g.Nodes, nodeMayBe) &&
		allHold(g.Edges, func(e api.Edge) bool { return there.has(e.From) && there.has(e.To) && edgeMayBe(e) })
}

func nodeMayBe(n api.Node) bool {
	return n.ID >= 0 && wordsMayBe(n.Labels) && propsMayBe(n.Props)
}

// edgeMayBe tells whether e may be between nodes that there are.
func edgeMayBe(e api.Edge) bool {
	return e.ID >= 0 && isWord(e.Type) && propsMayBe(e.Props)
}

func propsMayBe(l []api.Pair) bool {
	return len(l) <= api.MaxData && wordsMayBe(mapped(l, keyOf)) &&
		allHold(l, func(p api.Pair) bool { return isProp(p.V) })
}

// wordsMayBe tells whether l may be a node's labels, or the keys of properties.
func wordsMayBe(l []string) bool {
	return len(l) <= api.MaxData && allHold(l, isWord) && areUnlike(l)
}

// isWord tells whether s may be a label, a type, a key.
func isWord(s string) bool {
	return s != "" && len(s) <= api.MaxText
}

// isProp tells whether v may be a property's value.
func isProp(v api.Value) bool {
	fits := isPlain(v) || v.Kind == api.KList && allHold(v.List, isPlain)
	return fits && value.Check(v)
}

func isPlain(v api.Value) bool {
	switch v.Kind {
	case api.KBool, api.KInt, api.KDec, api.KText:
		return true
	}
	return false
}

func allHold[T any](l []T, holds func(T) bool) bool {
	for _, v := range l {
		if !holds(v) {
			return false
		}
	}
	return true
}
