package plan

import "slices"

// drawing tells what draws numbers from 0 to below n, out of the seed: of seed 0 all are 0, and whatever few one likes are those of some seed.
func drawing(seed int) func(n int) int {
	left := uint64(seed)
	return func(n int) int {
		many := uint64(n)
		drawn := left % many
		left /= many
		return int(drawn)
	}
}

// turned tells vars in an order that is drawn. None comes ahead of those that share an edge with what is there, so that whoever binds the variables in this order goes on from what is bound, as long as the edges hang together.
func turned(vars []string, edges [][]string, draw func(n int) int) []string {
	var order []string
	for len(vars) > 0 {
		next := vars
		if near := beside(vars, order, edges); len(near) > 0 {
			next = near
		}
		name := next[draw(len(next))]
		order = append(order, name)
		vars = others(vars, name)
	}
	return order
}

// beside tells those of vars that share an edge with one of there.
func beside(vars, there []string, edges [][]string) []string {
	var around []string
	for _, e := range edges {
		if share(e, there) {
			around = append(around, e...)
		}
	}
	return slices.DeleteFunc(slices.Clone(vars), func(name string) bool { return !slices.Contains(around, name) })
}

func share(a, b []string) bool {
	return slices.ContainsFunc(a, func(name string) bool { return slices.Contains(b, name) })
}

func others(vars []string, name string) []string {
	return slices.DeleteFunc(slices.Clone(vars), func(other string) bool { return other == name })
}
