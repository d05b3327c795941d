package procs

import (
	"cmp"
	"slices"
)

// ordered is a list that rises, with nothing in it twice, whatever order things come in: so the greatest is the last, and the whole can be told as it stands.
type ordered[T cmp.Ordered] struct {
	items []T
}

// has tells whether v is there.
func (o *ordered[T]) has(v T) bool {
	_, there := slices.BinarySearch(o.items, v)
	return there
}

// put lays v in its place.
func (o *ordered[T]) put(v T) {
	if at, there := slices.BinarySearch(o.items, v); !there {
		o.items = slices.Insert(o.items, at, v)
	}
}

// drop takes v out, and tells whether it was there.
func (o *ordered[T]) drop(v T) bool {
	at, there := slices.BinarySearch(o.items, v)
	if there {
		o.items = slices.Delete(o.items, at, at+1)
	}
	return there
}

// below tells whether all that is there is below v.
func (o *ordered[T]) below(v T) bool {
	many := len(o.items)
	return many == 0 || o.items[many-1] < v
}

// many tells how many are there.
func (o *ordered[T]) many() int { return len(o.items) }

// all tells what is there, as a list of its own.
func (o *ordered[T]) all() []T { return slices.Clone(o.items) }
