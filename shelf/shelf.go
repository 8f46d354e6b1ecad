// Package shelf: numbered things, in the order of their numbers, with gaps between.
package shelf

import (
	"iter"
	"slices"
)

// Number is what things may be numbered by.
type Number interface {
	~int | ~int32 | ~int64 | ~uint | ~uint32 | ~uint64
}

// Shelf has one thing for a number, or none. The zero value is an empty shelf.
type Shelf[N Number, T any] struct {
	numbers []N // those of things, in order
	things  map[N]T
}

// Put lays a thing at its number, in place of what lies there.
func (s *Shelf[N, T]) Put(n N, thing T) {
	if s.things == nil {
		s.things = map[N]T{}
	}
	if at, found := slices.BinarySearch(s.numbers, n); !found {
		s.numbers = slices.Insert(s.numbers, at, n)
	}
	s.things[n] = thing
}

// Get tells the thing of a number, if there is one.
func (s *Shelf[N, T]) Get(n N) (T, bool) {
	thing, found := s.things[n]
	return thing, found
}

// Has tells if there is a thing of a number.
func (s *Shelf[N, T]) Has(n N) bool {
	_, found := s.things[n]
	return found
}

// Len tells how many things there are.
func (s *Shelf[N, T]) Len() int { return len(s.numbers) }

// Last tells the greatest number of a thing, if there is one.
func (s *Shelf[N, T]) Last() (N, bool) {
	if len(s.numbers) == 0 {
		return 0, false
	}
	return s.numbers[len(s.numbers)-1], true
}

// First goes through the things of the least numbers, in order, at most so many. The shelf stays as it is meanwhile.
func (s *Shelf[N, T]) First(most int) iter.Seq2[N, T] {
	return func(yield func(N, T) bool) {
		for _, n := range s.numbers[:min(most, len(s.numbers))] {
			if !yield(n, s.things[n]) {
				return
			}
		}
	}
}

// All goes through all things, in order. The shelf stays as it is meanwhile.
func (s *Shelf[N, T]) All() iter.Seq2[N, T] { return s.First(s.Len()) }

// Take takes away the thing of a number, if there is one, and tells it.
func (s *Shelf[N, T]) Take(n N) (T, bool) {
	thing, found := s.things[n]
	if found {
		at, _ := slices.BinarySearch(s.numbers, n)
		s.numbers = slices.Delete(s.numbers, at, at+1)
		delete(s.things, n)
	}
	return thing, found
}

// TakeUpTo takes away the things up to a number, and tells them in order.
func (s *Shelf[N, T]) TakeUpTo(n N) []T {
	var taken []T
	end, found := slices.BinarySearch(s.numbers, n)
	if found {
		end++
	}
	for _, number := range s.numbers[:end] {
		taken = append(taken, s.things[number])
		delete(s.things, number)
	}
	s.numbers = slices.Delete(s.numbers, 0, end)
	return taken
}

// Clear takes all things away.
func (s *Shelf[N, T]) Clear() {
	clear(s.things)
	s.numbers = s.numbers[:0]
}
