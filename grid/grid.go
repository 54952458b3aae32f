// Package grid: the cells of a yard: what a good yard is, what lies beside what, and how far it is.
package grid

import "yard/api"

const (
	free = '.'
	wall = '#'
)

// NoCell stands for the number of a cell that there is not.
const NoCell = -1

// sides: how many rows and columns a neighbour is away.
var sides = [4]struct{ rows, cols int }{{-1, 0}, {1, 0}, {0, -1}, {0, 1}}

// Free tells whether a number is that of a free cell. The yard's Cells may be of any length.
func Free(y api.Yard, cell int) bool {
	return within(cell, 0, len(y.Cells)-1) && y.Cells[cell] == free
}

// IsCell tells whether a byte may stand in a yard's Cells.
func IsCell(b byte) bool { return b == free || b == wall }

// At tells the number of the cell in a row and a column; NoCell, if one of them lies outside.
func At(y api.Yard, row, col int) int {
	if !within(row, 0, y.Rows-1) || !within(col, 0, y.Cols-1) {
		return NoCell
	}
	return row*y.Cols + col
}

// Neighbours lists the cells beside a cell of a good yard, walls among them.
func Neighbours(y api.Yard, cell int) []int {
	var list []int
	for _, s := range sides {
		if there := At(y, cell/y.Cols+s.rows, cell%y.Cols+s.cols); there != NoCell {
			list = append(list, there)
		}
	}
	return list
}

// Moves lists the cells to which a cart may go from a free cell of a good yard: that one, and the free ones beside it.
func Moves(y api.Yard, cell int) []int {
	list := []int{cell}
	for _, there := range Neighbours(y, cell) {
		if Free(y, there) {
			list = append(list, there)
		}
	}
	return list
}

func within(n, least, most int) bool { return least <= n && n <= most }
