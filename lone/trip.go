// Package lone: one cart on its own: the paths on which it keeps rules.
package lone

import (
	"yard/api"
	"yard/grid"
)

// trip: what a path of one cart is held against.
type trip struct {
	y       api.Yard
	cart    api.Cart
	bans    bans
	settled int // no path may end ahead of it
}

func newTrip(y api.Yard, cart api.Cart, rules []api.Rule) trip {
	return trip{y: y, cart: cart, bans: bansOf(y, rules), settled: settledAt(cart.To, rules)}
}

// mayBegin tells whether the cart may be at its From at all.
func (t trip) mayBegin() bool { return t.bans.allowSpot(spot{t.cart.From, 0}) }

// nexts lists the cells to which the cart may go from a cell at an instant.
func (t trip) nexts(here spot) []int {
	var list []int
	for _, there := range grid.Moves(t.y, here.cell) {
		if t.bans.allowStep(step{here.cell, there, here.at}) {
			list = append(list, there)
		}
	}
	return list
}
