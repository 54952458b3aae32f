package heap_test

import (
	"slices"
	"testing"

	"yard/heap"
)

func drained[T any](h *heap.Heap[T]) []T {
	var list []T
	for item, ok := h.Pop(); ok; item, ok = h.Pop() {
		list = append(list, item)
	}
	return list
}

// orders: all orders of 0 to n-1.
func orders(n int) [][]int {
	if n == 0 {
		return [][]int{nil}
	}
	var all [][]int
	for _, order := range orders(n - 1) {
		for place := range n {
			all = append(all, slices.Insert(slices.Clone(order), place, n-1))
		}
	}
	return all
}

func TestAllOrders(t *testing.T) {
	for n := range 8 {
		for _, order := range orders(n) {
			h := heap.Heap[int]{Ahead: func(a, b int) bool { return a < b }}
			for _, item := range order {
				h.Push(item)
			}
			if list := drained(&h); !slices.IsSorted(list) || len(list) != n {
				t.Fatalf("pushed %v, popped %v", order, list)
			}
		}
	}
}

func TestNothing(t *testing.T) {
	h := heap.Heap[string]{Ahead: func(a, b string) bool { return a < b }}
	for range 2 {
		if item, ok := h.Pop(); item != "" || ok {
			t.Errorf("popped %q of an empty heap", item)
		}
		h.Push("x")
		if item, ok := h.Pop(); item != "x" || !ok {
			t.Errorf("popped %q, %t, want x", item, ok)
		}
	}
}

// The function in the field alone orders; items on a par all come out.
func TestOrderedByItsFunction(t *testing.T) {
	type pair struct{ weight, name int }
	h := heap.Heap[pair]{Ahead: func(a, b pair) bool { return a.weight > b.weight }}
	for name := range 100 {
		h.Push(pair{name * 37 % 10, name})
	}
	list := drained(&h)
	if !slices.IsSortedFunc(list, func(a, b pair) int { return b.weight - a.weight }) {
		t.Errorf("popped %v, want falling weights", list)
	}
	names := map[int]struct{}{}
	for _, p := range list {
		names[p.name] = struct{}{}
	}
	if len(list) != 100 || len(names) != 100 {
		t.Errorf("popped %d items, %d of them different, want 100", len(list), len(names))
	}
}

// Pushing and popping in turn: each time the least of those that are in comes out.
func TestInTurn(t *testing.T) {
	h := heap.Heap[int]{Ahead: func(a, b int) bool { return a < b }}
	var in []int
	for i := range 500 {
		item := i * i * 31 % 101
		h.Push(item)
		in = append(in, item)
		if i%3 == 0 {
			continue
		}
		least := slices.Min(in)
		if item, ok := h.Pop(); item != least || !ok {
			t.Fatalf("popped %d, %t, want %d", item, ok, least)
		}
		place := slices.Index(in, least)
		in = slices.Delete(in, place, place+1)
	}
}
