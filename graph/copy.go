package graph

import (
	"slices"
	"strings"

	"diptych/api"
)

// mapped tells what tell makes of each of l, in new memory.
func mapped[A, B any](l []A, tell func(A) B) []B {
	var told []B
	for _, v := range l {
		told = append(told, tell(v))
	}
	return told
}

// own tells v in new memory.
func own(v api.Value) api.Value {
	v.Text, v.Extra, v.List = strings.Clone(v.Text), strings.Clone(v.Extra), mapped(v.List, own)
	return v
}

func ownPair(p api.Pair) api.Pair {
	return api.Pair{Key: strings.Clone(p.Key), V: own(p.V)}
}

func ownNode(n api.Node) api.Node {
	n.Labels, n.Props = mapped(n.Labels, strings.Clone), mapped(n.Props, ownPair)
	return n
}

func ownEdge(e api.Edge) api.Edge {
	e.Type, e.Props = strings.Clone(e.Type), mapped(e.Props, ownPair)
	return e
}

// plainNode tells n in new memory, its labels and keys in their order.
func plainNode(n api.Node) api.Node {
	n = ownNode(n)
	slices.Sort(n.Labels)
	slices.SortFunc(n.Props, compareKeys)
	return n
}

func plainEdge(e api.Edge) api.Edge {
	e = ownEdge(e)
	slices.SortFunc(e.Props, compareKeys)
	return e
}

func keyOf(p api.Pair) string {
	return p.Key
}

func compareKey(p api.Pair, key string) int {
	return strings.Compare(p.Key, key)
}

func compareKeys(a, b api.Pair) int {
	return strings.Compare(a.Key, b.Key)
}
