package agg

import "slices"

// heap keeps the first few of the items that it is given, in the order of compare.
type heap[T any] struct {
	most    int // how many it keeps
	compare func(a, b T) int
	items   []T // none is ahead of those below it, so that the last of all lies at the top: those below item i are 2i+1 and 2i+2
}

func (h *heap[T]) put(item T) {
	switch {
	case len(h.items) < h.most:
		h.items = append(h.items, item)
		h.rise(len(h.items) - 1)
	case h.most > 0 && h.compare(item, h.items[0]) < 0:
		h.items[0] = item
		h.sink(0)
	}
}

// rise swaps item i upwards until what is above it isn't ahead of it.
func (h *heap[T]) rise(i int) {
	for i > 0 {
		above := (i - 1) / 2
		if !h.ahead(above, i) {
			return
		}
		h.swap(i, above)
		i = above
	}
}

// sink swaps item i downwards until it isn't ahead of what is below it.
func (h *heap[T]) sink(i int) {
	for {
		last := i
		for _, below := range [...]int{2*i + 1, 2*i + 2} {
			if below < len(h.items) && h.ahead(last, below) {
				last = below
			}
		}
		if last == i {
			return
		}
		h.swap(i, last)
		i = last
	}
}

func (h *heap[T]) ahead(i, j int) bool {
	return h.compare(h.items[i], h.items[j]) < 0
}

func (h *heap[T]) swap(i, j int) {
	h.items[i], h.items[j] = h.items[j], h.items[i]
}

// sorted tells what it has kept.
func (h *heap[T]) sorted() []T {
	l := slices.Clone(h.items)
	slices.SortFunc(l, h.compare)
	return l
}
