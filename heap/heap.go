// Package heap: what is to be looked at next, the foremost first.
package heap

// Heap keeps items of any one type. Ahead orders it: it tells whether a is to come out ahead of b.
type Heap[T any] struct {
	Ahead func(a, b T) bool
	items []T
}

// Push puts an item in.
func (h *Heap[T]) Push(item T) {
	h.items = append(h.items, item)
	h.rise(len(h.items) - 1)
}

// Pop takes out an item that no other is ahead of; false, if there is none.
func (h *Heap[T]) Pop() (T, bool) {
	var nothing T
	if len(h.items) == 0 {
		return nothing, false
	}
	foremost, last := h.items[0], len(h.items)-1
	h.items[0] = h.items[last]
	// What is out is not to be held on to by the spare room.
	h.items[last] = nothing
	h.items = h.items[:last]
	h.sink(0)
	return foremost, true
}

func (h *Heap[T]) rise(at int) {
	for at > 0 {
		parent := (at - 1) / 2
		if !h.Ahead(h.items[at], h.items[parent]) {
			return
		}
		h.swap(at, parent)
		at = parent
	}
}

func (h *Heap[T]) sink(at int) {
	for {
		first := at
		for child := 2*at + 1; child <= 2*at+2 && child < len(h.items); child++ {
			if h.Ahead(h.items[child], h.items[first]) {
				first = child
			}
		}
		if first == at {
			return
		}
		h.swap(at, first)
		at = first
	}
}

func (h *Heap[T]) swap(a, b int) {
	h.items[a], h.items[b] = h.items[b], h.items[a]
}
