package mapping

import (
	"diptych/api"
	"diptych/triples"
)

// triplesShown tells a triple for each edge of g, a graph in its plain form; false, if nodes are not numbered from 0 on or one of them stands for nothing.
func triplesShown(g api.Graph) ([]api.Triple, bool) {
	var values []api.Value
	for i, n := range g.Nodes {
		v, ok := valueOf(n)
		if !ok || n.ID != int64(i) {
			return nil, false
		}
		values = append(values, v)
	}
	var l []api.Triple
	for _, e := range g.Edges {
		l = append(l, api.Triple{S: values[e.From], P: iri(e.Type), O: values[e.To]})
	}
	return l, true
}

// valueOf tells the value for which n, in its plain form, stands, if it stands for one.
func valueOf(n api.Node) (api.Value, bool) {
	v := valueShown(n)
	if !isEnd(v) || !sameNode(nodeOf(n.ID, v), n) {
		return api.Value{}, false
	}
	return v, true
}

// valueShown tells what n's label makes of its properties: it need not be a value that may be, and n may have more than it needs.
func valueShown(n api.Node) api.Value {
	if len(n.Labels) != 1 {
		return api.Value{}
	}
	shown, extra := prop(n, keyValue), prop(n, keyExtra)
	switch n.Labels[0] {
	case labelIri:
		return iri(shown.Text)
	case labelBlank:
		return api.Value{Kind: api.KBlank, Text: shown.Text}
	case labelLit:
		return api.Value{Kind: api.KLit, Text: shown.Text, Extra: extra.Text}
	case labelVal:
		return shown
	}
	return api.Value{}
}

func prop(n api.Node, key string) api.Value {
	for _, p := range n.Props {
		if p.Key == key {
			return p.V
		}
	}
	return api.Value{}
}

// isEnd tells whether v may be the S or the O of a triple: what may be an S may be an O.
func isEnd(v api.Value) bool {
	return triples.Check(api.Triple{S: iri("s"), P: iri("p"), O: v})
}

func iri(s string) api.Value {
	return api.Value{Kind: api.KIri, Text: s}
}
