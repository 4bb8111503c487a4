package batch

import (
	"slices"
	"strings"

	"diptych/api"
	"diptych/dict"
	"diptych/rows"
)

// column has a cell for each row of a batch, chosen or not; what is unbound is null.
type column = dict.Column[api.Value]

func newColumn() *column {
	return dict.NewColumn[api.Value]()
}

func put(c *column, v api.Value) {
	if v.Kind == api.KNull {
		c.PutNull()
		return
	}
	c.Put(v)
}

// fill lays unbound cells down until there are so many cells.
func fill(c *column, size int) {
	for c.Len() < size {
		c.PutNull()
	}
}

func cell(c *column, row int) api.Value {
	v, _, _ := c.At(row) // KNull where it is null
	return v
}

// laid makes a batch of rows that may be under vars.
func laid(vars []string, l [][]api.Value) *Batch {
	b := &Batch{vars: ownVars(vars), size: len(l), chosen: upTo(len(l))}
	for i := range vars {
		c := newColumn()
		for _, row := range l {
			put(c, row[i])
		}
		b.columns = append(b.columns, c)
	}
	return b
}

// taken makes a batch of the rows with these numbers, in this order.
func (b *Batch) taken(from []int) *Batch {
	t := &Batch{vars: ownVars(b.vars), size: len(from), chosen: upTo(len(from))}
	for _, c := range b.columns {
		some, _ := c.Take(from)
		t.columns = append(t.columns, some)
	}
	return t
}

// columnsOf tells a column for each of vars, without any bound cell where there is no such variable.
func (b *Batch) columnsOf(vars []string) []*column {
	var l []*column
	for _, name := range vars {
		i := slices.Index(b.vars, name)
		if i >= 0 {
			l = append(l, b.columns[i])
			continue
		}
		unbound := newColumn()
		fill(unbound, b.size)
		l = append(l, unbound)
	}
	return l
}

// rowsUnder tells the chosen rows under vars.
func (b *Batch) rowsUnder(vars []string) [][]api.Value {
	columns := b.columnsOf(vars)
	var l [][]api.Value
	for _, n := range b.chosen {
		var row []api.Value
		for _, c := range columns {
			row = append(row, cell(c, n))
		}
		l = append(l, row)
	}
	return l
}

// takes tells whether there may be a variable more with this name.
func (b *Batch) takes(name string) bool {
	return mayBeVars(slices.Concat(b.vars, []string{name}))
}

func mayBeVars(vars []string) bool {
	return rows.Check(api.Table{Vars: vars})
}

func ownVars(vars []string) []string {
	var l []string
	for _, name := range vars {
		l = append(l, strings.Clone(name))
	}
	return l
}

// risesWithin tells whether at rises strictly and all of it is in l, which rises.
func risesWithin(at, l []int) bool {
	for i, n := range at {
		_, there := slices.BinarySearch(l, n)
		if !there || i > 0 && n <= at[i-1] {
			return false
		}
	}
	return true
}

func upTo(n int) []int {
	var l []int
	for i := range n {
		l = append(l, i)
	}
	return l
}
