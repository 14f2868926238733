package agenda

import "cmp"

// entry is a thing that is in.
type entry[T any] struct {
	x              T
	weight, ticket int
	at             int // its place in the queue, from where the library takes it out or moves it on
}

// order: which of two comes first? No two have one ticket, so that it tells 0 of none, and how a heap lies can't be seen.
func order[T any](e, f *entry[T]) int {
	// Held against each other and not taken from each other: weights may be as far apart as no int tells.
	return cmp.Or(cmp.Compare(e.weight, f.weight), cmp.Compare(e.ticket, f.ticket))
}

// queue is a heap: the library moves what lies in it by these methods, as those of heap.Interface.
type queue[T any] []*entry[T]

// Len is how many lie in it.
func (q queue[T]) Len() int { return len(q) }

// Less: does the one at i come ahead of the one at j?
func (q queue[T]) Less(i, j int) bool { return order(q[i], q[j]) < 0 }

// Swap lets two change places.
func (q queue[T]) Swap(i, j int) {
	q[i], q[j] = q[j], q[i]
	q[i].at, q[j].at = i, j
}

// Push lays an entry at the end.
func (q *queue[T]) Push(x any) {
	if e, ok := x.(*entry[T]); ok {
		e.at = len(*q)
		*q = append(*q, e)
	}
}

// Pop takes the last entry away.
func (q *queue[T]) Pop() any {
	last := len(*q) - 1
	e := (*q)[last]
	(*q)[last] = nil // a thing that is gone is not held on to
	*q = (*q)[:last]
	return e
}
