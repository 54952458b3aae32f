// Package grid: the cells of a yard: what a good yard is, what lies beside what, and how far it is.
package grid

import "yard/api"

const (
	free = '.'
	wall = '#'
)

// sides: how many rows and columns a neighbour is away.
var sides = [4]struct{ rows, cols int }{{-1, 0}, {1, 0}, {0, -1}, {0, 1}}

// Free tells whether a number is that of a free cell. The yard's Cells may be of any length.
func Free(y api.Yard, cell int) bool {
	return within(cell, 0, len(y.Cells)-1) && y.Cells[cell] == free
}

// Neighbours lists the cells beside a cell of a good yard, walls among them.
func Neighbours(y api.Yard, cell int) []int {
	var list []int
	for _, s := range sides {
		row, col := cell/y.Cols+s.rows, cell%y.Cols+s.cols
		if within(row, 0, y.Rows-1) && within(col, 0, y.Cols-1) {
			list = append(list, row*y.Cols+col)
		}
	}
	return list
}

// Moves lists the cells to which a cart may go from a free cell of a good yard: that one, and the free ones beside it.
func Moves(y api.Yard, cell int) []int {
	list := []int{cell}
	for _, there := range Neighbours(y, cell) {
		if Free(y, there) {
			list = append(list, there)
		}
	}
	return list
}

func within(n, least, most int) bool { return least <= n && n <= most }
