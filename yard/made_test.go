package yard_test

import (
	"strings"

	"yard/api"
)

// made: a yard of rows with / between, and carts: from, to, from, to ..
func made(rows string, ends ...int) api.Yard {
	lines := strings.Split(rows, "/")
	y := api.Yard{Rows: len(lines), Cols: len(lines[0]), Cells: strings.Join(lines, ""), Budget: 100}
	for i := 0; i+1 < len(ends); i += 2 {
		y.Carts = append(y.Carts, api.Cart{From: ends[i], To: ends[i+1]})
	}
	return y
}

// changed: a yard like another but for what a function does to it.
func changed(y api.Yard, change func(*api.Yard)) api.Yard {
	y.Carts = append([]api.Cart(nil), y.Carts...)
	change(&y)
	return y
}
