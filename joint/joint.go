// Package joint: all carts of a yard together: their positions, and which comes behind which.
package joint

import (
	"yard/api"
	"yard/grid"
)

// position: for each cart its cell; noughts, where there is no cart. Cells are kept as bytes, which all of them fit:
// many positions are looked up, and small keys are looked up sooner.
type position [api.MaxCarts]uint8

// ground: what steps from position to position are held against.
type ground struct {
	carts int
	moves [][]int // for each free cell, those to which a cart may go from it
}

func newGround(y api.Yard) ground {
	g := ground{carts: len(y.Carts), moves: make([][]int, len(y.Cells))}
	for cell := range g.moves {
		if grid.Free(y, cell) {
			g.moves[cell] = grid.Moves(y, cell)
		}
	}
	return g
}

// starts: the position of all Froms.
func starts(y api.Yard) position {
	var p position
	for i, c := range y.Carts {
		p[i] = uint8(c.From)
	}
	return p
}

// goals: that of all Tos.
func goals(y api.Yard) position {
	var p position
	for i, c := range y.Carts {
		p[i] = uint8(c.To)
	}
	return p
}

// nexts lists the positions to which one may go from a position, itself among them.
func (g ground) nexts(here position) []position {
	// Cart by cart, so that what does not fit for the first ones is not gone on with for the others.
	list := []position{{}}
	for cart := range g.carts {
		var longer []position
		for _, there := range list {
			for _, cell := range g.moves[here[cart]] {
				there[cart] = uint8(cell)
				if fits(here, there, cart) {
					longer = append(longer, there)
				}
			}
		}
		list = longer
	}
	return list
}

// fits tells whether a cart neither meets nor swaps with one ahead of it.
func fits(here, there position, cart int) bool {
	for other := range cart {
		meets := there[cart] == there[other]
		swaps := there[cart] == here[other] && there[other] == here[cart]
		if meets || swaps {
			return false
		}
	}
	return true
}
