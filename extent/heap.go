package extent

import "slices"

// ordered is what can tell whether it comes ahead of another one of its kind.
type ordered[T any] interface {
	before(T) bool
}

// heap keeps items of any kind that has an order, the lowest first.
type heap[T ordered[T]] struct {
	items []T // none comes ahead of the one at (i - 1) / 2
}

func (h *heap[T]) push(v T) {
	h.items = append(h.items, v)
	h.rise(len(h.items) - 1)
}

// remove takes the item at i out: at 0 lies the lowest one.
func (h *heap[T]) remove(i int) T {
	v, last := h.items[i], len(h.items)-1
	h.items[i] = h.items[last]
	h.items = h.items[:last]
	if i < last {
		// The last one may come from another branch, so it may belong higher as well as deeper.
		h.sink(i)
		h.rise(i)
	}
	return v
}

func (h *heap[T]) rise(i int) {
	for i > 0 && h.items[i].before(h.items[(i-1)/2]) {
		h.swap(i, (i-1)/2)
		i = (i - 1) / 2
	}
}

func (h *heap[T]) sink(i int) {
	for {
		low := h.lower(h.lower(i, 2*i+1), 2*i+2)
		if low == i {
			return
		}
		h.swap(i, low)
		i = low
	}
}

// lower is the place of the lower one of two items; i, if there is none at j.
func (h *heap[T]) lower(i, j int) int {
	if j < len(h.items) && h.items[j].before(h.items[i]) {
		return j
	}
	return i
}

func (h *heap[T]) swap(i, j int) {
	h.items[i], h.items[j] = h.items[j], h.items[i]
}

// rising goes through all items, the lowest first; they stay in the heap.
func (h *heap[T]) rising(yield func(T) bool) {
	left := h.copy()
	for len(left.items) > 0 && yield(left.remove(0)) {
	}
}

func (h *heap[T]) copy() heap[T] {
	return heap[T]{items: slices.Clone(h.items)}
}
