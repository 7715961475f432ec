// Package heap keeps things so that the one that is ahead of all others is at hand.
package heap

// Heap holds things of one type; which of two is taken first, its order says.
type Heap[T any] struct {
	items []T
	ahead func(a, b T) bool
}

// New makes an empty heap. Things that are not ahead of each other are taken in some order that hangs on what was put in, and when, alone.
func New[T any](ahead func(a, b T) bool) *Heap[T] {
	return &Heap[T]{ahead: ahead}
}

// Put adds a thing.
func (h *Heap[T]) Put(item T) {
	h.items = append(h.items, item)
	h.rise(len(h.items) - 1)
}

// Take removes the thing that no other is ahead of; it answers false if there is none.
func (h *Heap[T]) Take() (T, bool) {
	var none T
	if len(h.items) == 0 {
		return none, false
	}
	first := h.items[0]
	last := len(h.items) - 1
	h.items[0] = h.items[last]
	h.items[last] = none // else the heap would go on holding what was taken
	h.items = h.items[:last]
	h.sink(0)
	return first, true
}

func (h *Heap[T]) rise(at int) {
	for at > 0 {
		parent := (at - 1) / 2
		if !h.ahead(h.items[at], h.items[parent]) {
			return
		}
		h.swap(at, parent)
		at = parent
	}
}

func (h *Heap[T]) sink(at int) {
	for {
		child := h.firstChild(at)
		if child >= len(h.items) || !h.ahead(h.items[child], h.items[at]) {
			return
		}
		h.swap(at, child)
		at = child
	}
}

// firstChild answers a place behind the last one if there is no child.
func (h *Heap[T]) firstChild(at int) int {
	left := 2*at + 1
	right := left + 1
	if right < len(h.items) && h.ahead(h.items[right], h.items[left]) {
		return right
	}
	return left
}

func (h *Heap[T]) swap(a, b int) {
	h.items[a], h.items[b] = h.items[b], h.items[a]
}
