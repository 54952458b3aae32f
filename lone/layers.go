package lone

import (
	"maps"
	"slices"

	"yard/api"
)

// layer: the cells on which the cart may be at an instant.
type layer map[int]struct{}

// Layers lists for each instant the cells of all paths of one cost that keep good rules; nil, if there is no such path.
func Layers(y api.Yard, cart api.Cart, rules []api.Rule, cost int) [][]int {
	t := newTrip(y, cart, rules)
	if cost < t.settled {
		return nil
	}
	// A path does not end with waiting.
	t.bans.banStep(step{cart.To, cart.To, cost - 1})
	layers := t.reached(cost)
	t.keepLeadingToEnd(layers)
	if len(layers[0]) == 0 {
		return nil
	}
	lists := make([][]int, len(layers))
	for at, cells := range layers {
		lists[at] = slices.Sorted(maps.Keys(cells))
	}
	return lists
}

// reached tells for each instant the cells to which the cart can have come.
func (t trip) reached(cost int) []layer {
	layers := make([]layer, cost+1)
	layers[0] = layer{}
	if t.mayBegin() {
		layers[0][t.cart.From] = struct{}{}
	}
	for at := range cost {
		layers[at+1] = t.after(layers[at], at)
	}
	return layers
}

func (t trip) after(cells layer, at int) layer {
	later := layer{}
	for cell := range cells {
		for _, there := range t.nexts(spot{cell, at}) {
			later[there] = struct{}{}
		}
	}
	return later
}

// keepLeadingToEnd strikes out, from the last instant on backwards, the cells from which the cart does not come to its To.
func (t trip) keepLeadingToEnd(layers []layer) {
	end := len(layers) - 1
	maps.DeleteFunc(layers[end], func(cell int, _ struct{}) bool { return cell != t.cart.To })
	for at := end - 1; at >= 0; at-- {
		maps.DeleteFunc(layers[at], func(cell int, _ struct{}) bool {
			return !t.leadsInto(layers[at+1], spot{cell, at})
		})
	}
}

func (t trip) leadsInto(later layer, here spot) bool {
	return slices.ContainsFunc(t.nexts(here), func(there int) bool {
		_, in := later[there]
		return in
	})
}
