package graph

import (
	"maps"
	"slices"

	"diptych/api"
)

// Directions in which an edge goes at a node.
const (
	in     = -1
	either = 0
	out    = 1
)

// way is a node and a direction in which edges go there.
type way struct {
	node int64
	dir  int
}

func (s *Store) takeNodes(l []api.Node) {
	for _, n := range l {
		s.nodes[n.ID] = plainNode(n)
	}
	s.nodeNumbers = slices.Sorted(maps.Keys(s.nodes))
	for _, id := range s.nodeNumbers {
		for _, label := range s.nodes[id].Labels {
			s.labels[label] = append(s.labels[label], id)
		}
	}
}

func (s *Store) takeEdges(l []api.Edge) {
	for _, e := range l {
		s.edges[e.ID] = plainEdge(e)
	}
	s.edgeNumbers = slices.Sorted(maps.Keys(s.edges))
	for _, id := range s.edgeNumbers {
		e := s.edges[id]
		for _, w := range waysOf(e) {
			s.hops[w] = append(s.hops[w], id)
		}
	}
}

// waysOf tells the ways that e goes, each once.
func waysOf(e api.Edge) []way {
	ways := []way{{e.From, out}, {e.To, in}, {e.From, either}}
	if e.To != e.From {
		ways = append(ways, way{e.To, either})
	}
	return ways
}

// props tells the properties, by their keys, of the node or the edge that v is.
func (s *Store) props(v api.Value) []api.Pair {
	switch v.Kind {
	case api.KNode:
		return s.nodes[v.Int].Props
	case api.KEdge:
		return s.edges[v.Int].Props
	}
	return nil
}
