package joint

import (
	"yard/api"
	"yard/grid"
	"yard/heap"
)

// state: a position, and the carts that have not yet come to stay.
type state struct {
	cells    position
	underWay [api.MaxCarts]bool
}

// found: what it costs from a state to the end, and which state is the next towards the end.
type found struct {
	cost int
	next state
}

// lead: a state to be looked at; whole is the least cost of all that a plan through it can have.
type lead struct {
	state
	cost, whole int
}

// search goes from the end of a plan to its beginning, since each step may be taken back. So nothing is to be guessed:
// a cart that has not moved yet has come to stay, and the instants of the others are what costs.
type search struct {
	ground
	far   [][]int // for each cart, how far each cell is from its From
	seen  map[state]found
	leads heap.Heap[lead]
}

// Plan finds a good plan of the least cost, and that cost, for a good yard that has the position of all Tos.
func Plan(y api.Yard) ([][]int, int) {
	s := newSearch(y)
	end := state{cells: goals(y)}
	s.see(end, found{cost: 0, next: end})
	begin := s.comeTo(starts(y))
	return s.pathsFrom(begin), s.seen[begin].cost
}

func newSearch(y api.Yard) *search {
	s := &search{ground: newGround(y), seen: map[state]found{}, leads: heap.Heap[lead]{Ahead: ahead}}
	for _, c := range y.Carts {
		s.far = append(s.far, grid.Far(y, c.From))
	}
	return s
}

// ahead: of two leads that may come to cost the same, the one with less left to go is likely to be through sooner.
func ahead(a, b lead) bool {
	return a.whole < b.whole || a.whole == b.whole && a.cost > b.cost
}

// see keeps how a state was come to, if no way to it that costs as little is known.
func (s *search) see(here state, how found) {
	if known, ok := s.seen[here]; ok && known.cost <= how.cost {
		return
	}
	s.seen[here] = how
	s.leads.Push(lead{here, how.cost, how.cost + s.rest(here.cells)})
}

// rest: a cart needs an instant for each step to its From, so this is never more than what is still to be paid.
func (s *search) rest(cells position) int {
	sum := 0
	for cart, far := range s.far {
		sum += far[cells[cart]]
	}
	return sum
}

// comeTo goes on until it comes to a position at the least cost.
func (s *search) comeTo(begin position) state {
	for here, ok := s.leads.Pop(); ok; here, ok = s.leads.Pop() {
		if here.cells == begin {
			return here.state
		}
		// It may have been come to at less cost since it was put in.
		if here.cost == s.seen[here.state].cost {
			s.goBackFrom(here)
		}
	}
	return state{}
}

// goBackFrom sees all states that may be an instant ahead of one.
func (s *search) goBackFrom(here lead) {
	for _, cells := range s.nexts(here.cells) {
		there := state{cells: cells}
		cost := here.cost
		for cart := range s.carts {
			if here.underWay[cart] || cells[cart] != here.cells[cart] {
				there.underWay[cart] = true
				cost++
			}
		}
		s.see(there, found{cost: cost, next: here.state})
	}
}

// pathsFrom tells the cells of each cart from a state on until it comes to stay.
func (s *search) pathsFrom(begin state) [][]int {
	way := []state{begin}
	for here := begin; s.seen[here].cost > 0; {
		here = s.seen[here].next
		way = append(way, here)
	}
	paths := make([][]int, s.carts)
	for cart := range paths {
		paths[cart] = pathOf(cart, way)
	}
	return paths
}

func pathOf(cart int, way []state) []int {
	var path []int
	for _, here := range way {
		path = append(path, int(here.cells[cart]))
		if !here.underWay[cart] {
			break
		}
	}
	return path
}
