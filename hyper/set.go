package hyper

import (
	"iter"
	"math/bits"
)

// Variables and edges go by their numbers.
type (
	variable int
	edge     int
)

// set is a set of variables, or of edges: a bit for each number that is in it. There are at most 12 of either.
type set[T ~int] uint16

// below tells the set of the numbers below n.
func below[T ~int](n int) set[T] {
	return 1<<n - 1
}

// rising tells the set of some numbers, if they rise strictly, from 0 or more on, and stay below most.
func rising[T ~int](numbers iter.Seq[int], most int) (set[T], bool) {
	var s set[T]
	last := -1
	for n := range numbers {
		if n <= last || n >= most {
			return 0, false
		}
		s, last = s.with(T(n)), n
	}
	return s, true
}

func (s set[T]) has(n T) bool { return s&(1<<n) != 0 }

func (s set[T]) with(n T) set[T] { return s | 1<<n }

func (s set[T]) without(n T) set[T] { return s &^ (1 << n) }

func (s set[T]) within(other set[T]) bool { return s&^other == 0 }

func (s set[T]) size() int { return bits.OnesCount16(uint16(s)) }

// first tells the least number in s, which has one.
func (s set[T]) first() T { return T(bits.TrailingZeros16(uint16(s))) }

// all yields what is in s, rising.
func (s set[T]) all() iter.Seq[T] {
	return func(yield func(T) bool) {
		for left := s; left != 0; left = left.without(left.first()) {
			if !yield(left.first()) {
				return
			}
		}
	}
}
