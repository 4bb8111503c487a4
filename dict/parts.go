package dict

import (
	"math/bits"
	"strings"

	"diptych/api"
)

// numbering is the dictionary below Dict and Values. It has no exported methods, so that what embeds it has none but its own.
type numbering[K comparable] struct {
	numbers map[K]int
	keys    []K // by number
}

func newNumbering[K comparable]() numbering[K] {
	return numbering[K]{numbers: map[K]int{}}
}

func (n *numbering[K]) number(k K) int {
	id, known := n.numbers[k]
	if known {
		return id
	}
	id = len(n.keys)
	kept := own(k)
	n.numbers[kept] = id
	n.keys = append(n.keys, kept)
	return id
}

func (n *numbering[K]) find(k K) (int, bool) {
	id, known := n.numbers[k]
	return id, known
}

func (n *numbering[K]) key(id int) (k K, there bool) {
	if id < 0 || id >= len(n.keys) {
		return k, false
	}
	return own(n.keys[id]), true
}

func (n *numbering[K]) count() int {
	return len(n.keys)
}

const wordBits = 64

// marks are bits by number, in words.
type marks struct {
	words []uint64
}

// put lays the bit i behind those that there are: 0 to i-1.
func (m *marks) put(i int, marked bool) {
	word, place := i/wordBits, i%wordBits
	if place == 0 {
		m.words = append(m.words, 0)
	}
	if marked {
		m.words[word] |= 1 << place
	}
}

func (m *marks) at(i int) bool {
	return m.words[i/wordBits]>>(i%wordBits)&1 == 1
}

// count tells how many bits are set.
func (m *marks) count() int {
	set := 0
	for _, w := range m.words {
		set += bits.OnesCount64(w)
	}
	return set
}

// own tells v in memory that nobody else writes to, as far as its kind is known here: what a pointer of another kind leads to stays shared.
func own[T any](v T) T {
	switch p := any(&v).(type) {
	case *string:
		*p = strings.Clone(*p)
	case *api.Value:
		*p = ownValue(*p)
	case *[]api.Value:
		*p = ownList(*p)
	}
	return v
}

func ownValue(v api.Value) api.Value {
	v.Text, v.Extra, v.List = strings.Clone(v.Text), strings.Clone(v.Extra), ownList(v.List)
	return v
}

func ownList(l []api.Value) []api.Value {
	var owned []api.Value
	for _, v := range l {
		owned = append(owned, ownValue(v))
	}
	return owned
}
