package mapping

import (
	"slices"
	"strings"

	"diptych/api"
	"diptych/value"
)

// sameGraph tells whether two graphs in their plain form are the same.
func sameGraph(a, b api.Graph) bool {
	return slices.EqualFunc(a.Nodes, b.Nodes, sameNode) && slices.EqualFunc(a.Edges, b.Edges, sameEdge)
}

func sameNode(a, b api.Node) bool {
	return a.ID == b.ID && slices.Equal(a.Labels, b.Labels) && slices.EqualFunc(a.Props, b.Props, samePair)
}

func sameEdge(a, b api.Edge) bool {
	return a.ID == b.ID && a.From == b.From && a.To == b.To && a.Type == b.Type && slices.EqualFunc(a.Props, b.Props, samePair)
}

func samePair(a, b api.Pair) bool {
	return a.Key == b.Key && value.Same(a.V, b.V)
}

// own tells v in new memory.
func own(v api.Value) api.Value {
	var l []api.Value
	for _, part := range v.List {
		l = append(l, own(part))
	}
	v.Text, v.Extra, v.List = strings.Clone(v.Text), strings.Clone(v.Extra), l
	return v
}
