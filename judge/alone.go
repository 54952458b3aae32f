package judge

import (
	"slices"

	"yard/api"
	"yard/grid"
)

// stepFaults lists where a cart does not go as it may, or begins where it can't be.
func stepFaults(y api.Yard, plan [][]int) []api.Fault {
	var list []api.Fault
	for cart, cells := range plan {
		for at := range cells {
			if wrongFrom(y, cells, at) {
				list = append(list, api.Fault{Level: Steps, Cart: cart, Other: nobody, At: at})
			}
		}
	}
	return list
}

// wrongFrom tells whether there is a fault at an instant: one, if the list begins wrong and goes on wrong from there.
func wrongFrom(y api.Yard, cells []int, at int) bool {
	wrongStep := at+1 < len(cells) && !mayGo(y, cells[at], cells[at+1])
	return wrongStep || at == 0 && !grid.Free(y, cells[0])
}

// mayGo looks from the free cell back, for the other may be no cell at all. Where that is a wall, to have come to it
// is the fault, not to leave it.
func mayGo(y api.Yard, here, there int) bool {
	return grid.Free(y, there) && (here == there || slices.Contains(grid.Neighbours(y, there), here))
}

// endFaults lists where a cart does not begin at its From, or does not end at its To as a path does.
func endFaults(y api.Yard, plan [][]int) []api.Fault {
	var list []api.Fault
	for cart, cells := range plan {
		last := len(cells) - 1
		wrongStart, wrongEnd := beginsWrong(y.Carts[cart], cells), endsWrong(y.Carts[cart], cells)
		// In a list of one cell, the first is the last: it is wrong once.
		if wrongStart || wrongEnd && last == 0 {
			list = append(list, api.Fault{Level: Ends, Cart: cart, Other: nobody, At: 0})
		}
		if wrongEnd && last > 0 {
			list = append(list, api.Fault{Level: Ends, Cart: cart, Other: nobody, At: last})
		}
	}
	return list
}

func beginsWrong(cart api.Cart, cells []int) bool { return len(cells) == 0 || cells[0] != cart.From }

func endsWrong(cart api.Cart, cells []int) bool {
	last := len(cells) - 1
	return last >= 0 && cells[last] != cart.To || last > 0 && cells[last-1] == cart.To
}
