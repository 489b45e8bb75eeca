// Package heap keeps things so that the foremost of them is always at hand.
package heap

import (
	"iter"
	"slices"
)

// Ranked is what may lie in a heap: it tells whether it comes before another.
type Ranked[T any] interface {
	Before(T) bool
}

// Heap is one of things of type T; as it is declared, nothing lies in it.
type Heap[T Ranked[T]] struct {
	things []T // none comes before the one at half its place: see parent
}

// Len is how many things lie in the heap.
func (h *Heap[T]) Len() int {
	return len(h.things)
}

// All goes through what lies in the heap, in no order that means anything.
func (h *Heap[T]) All() iter.Seq[T] {
	return slices.Values(h.things)
}

// Push lays a thing into the heap.
func (h *Heap[T]) Push(thing T) {
	h.things = append(h.things, thing)
	h.rise(len(h.things) - 1)
}

// Top is the thing that comes before all others, and whether there is one.
func (h *Heap[T]) Top() (T, bool) {
	if len(h.things) == 0 {
		var none T
		return none, false
	}
	return h.things[0], true
}

// Pop takes the top out. The place that becomes free is cleared: whoever came
// out must not be kept in memory by the heap.
func (h *Heap[T]) Pop() (T, bool) {
	top, ok := h.Top()
	if ok {
		last := len(h.things) - 1
		h.things[0] = h.things[last]
		h.things = slices.Delete(h.things, last, last+1)
		h.sink(0)
	}
	return top, ok
}

func (h *Heap[T]) rise(i int) {
	for i > 0 && h.isBefore(i, parent(i)) {
		h.swap(i, parent(i))
		i = parent(i)
	}
}

func (h *Heap[T]) sink(i int) {
	for {
		foremost := i
		for child := 2*i + 1; child <= 2*i+2; child++ {
			if child < len(h.things) && h.isBefore(child, foremost) {
				foremost = child
			}
		}
		if foremost == i {
			return
		}
		h.swap(i, foremost)
		i = foremost
	}
}

func (h *Heap[T]) isBefore(i, k int) bool {
	return h.things[i].Before(h.things[k])
}

func (h *Heap[T]) swap(i, k int) {
	h.things[i], h.things[k] = h.things[k], h.things[i]
}

func parent(i int) int {
	return (i - 1) / 2
}
