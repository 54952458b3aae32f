package lone

import (
	"yard/api"
	"yard/grid"
	"yard/heap"
)

// Path finds a path of the least cost that keeps good rules; nil, if none keeps them.
func Path(y api.Yard, cart api.Cart, rules []api.Rule) []int {
	t := newTrip(y, cart, rules)
	far := grid.Far(y, cart.To)
	// Where there is a way, the search ends: behind the last rule each cell leads to To.
	if far[cart.From] < 0 || !t.mayBegin() {
		return nil
	}
	return t.search(far)
}

// search looks at spots by the least cost that a path through them can have.
func (t trip) search(far []int) []int {
	next := heap.Heap[spot]{Ahead: func(a, b spot) bool { return a.at+far[a.cell] < b.at+far[b.cell] }}
	start := spot{t.cart.From, 0}
	// For each spot seen, the cell ahead of it. All ways to a spot cost the same, so the first is as good as any.
	seen := map[spot]int{start: start.cell}
	next.Push(start)
	for here, ok := next.Pop(); ok; here, ok = next.Pop() {
		// No path may end with waiting, and the first such spot is not come to so: at settled a rule forbids it,
		// and later the instant ahead would have been found first.
		if here.cell == t.cart.To && here.at >= t.settled {
			return wayTo(here, seen)
		}
		for _, cell := range t.nexts(here) {
			there := spot{cell, here.at + 1}
			if _, known := seen[there]; !known {
				seen[there] = here.cell
				next.Push(there)
			}
		}
	}
	return nil
}

// wayTo goes back from a spot to the start.
func wayTo(end spot, cameFrom map[spot]int) []int {
	path := make([]int, end.at+1)
	cell := end.cell
	for at := end.at; at >= 0; at-- {
		path[at] = cell
		cell = cameFrom[spot{cell, at}]
	}
	return path
}
