package grid

import "yard/api"

// Check tells the first error of a yard, and its place or cart; OK, if it is good.
func Check(y api.Yard) (api.Errno, int) {
	// The sides come first: behind them their product cannot run over.
	if !within(y.Rows, 1, api.MaxSide) || !within(y.Cols, 1, api.MaxSide) {
		return api.ErrSide, 0
	}
	if place, bad := badCell(y); bad {
		return api.ErrCells, place
	}
	if !within(len(y.Carts), 1, api.MaxCarts) {
		return api.ErrCarts, 0
	}
	for i := range y.Carts {
		if e := checkCart(y, i); e != api.OK {
			return e, i
		}
	}
	if !within(y.Budget, 1, api.MaxBudget) {
		return api.ErrBudget, 0
	}
	return api.OK, 0
}

// badCell tells where Cells is wrong: at its length, if that is wrong, however its bytes are.
func badCell(y api.Yard) (int, bool) {
	if len(y.Cells) != y.Rows*y.Cols {
		return len(y.Cells), true
	}
	for i := range len(y.Cells) {
		if !IsCell(y.Cells[i]) {
			return i, true
		}
	}
	return 0, false
}

// checkCart holds a cart against the yard and against the carts ahead of it alone.
func checkCart(y api.Yard, cart int) api.Errno {
	c := y.Carts[cart]
	if !Free(y, c.From) || !Free(y, c.To) {
		return api.ErrPlace
	}
	for _, ahead := range y.Carts[:cart] {
		if ahead.From == c.From || ahead.To == c.To {
			return api.ErrTwice
		}
	}
	return api.OK
}
