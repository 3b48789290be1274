// Package fixed has lists whose length is settled when they are made.
package fixed

import (
	"iter"
	"slices"
)

// List is a list of a fixed length. Copies of it hold the same things.
type List[T any] struct{ things []T }

// Make is a list of so many things, each made for its place.
func Make[T any](many int, thing func(at int) T) List[T] {
	l := List[T]{make([]T, many)}
	for at := range l.things {
		l.things[at] = thing(at)
	}
	return l
}

// Has tells whether there is such a place.
func (l List[T]) Has(at int) bool { return at >= 0 && at < len(l.things) }

// Len is how many things there are.
func (l List[T]) Len() int { return len(l.things) }

// At is the thing at a place that the list has, to be read or changed there.
func (l List[T]) At(at int) *T { return &l.things[at] }

// All goes through the places and things, from the front on.
func (l List[T]) All() iter.Seq2[int, *T] {
	return func(yield func(int, *T) bool) {
		for at := range l.things {
			if !yield(at, &l.things[at]) {
				return
			}
		}
	}
}

// Fill makes all things the same.
func (l List[T]) Fill(thing T) {
	for at := range l.things {
		l.things[at] = thing
	}
}

// Copy is the things, in memory of their own.
func (l List[T]) Copy() []T { return slices.Clone(l.things) }
