package yard_test

import (
	"fmt"
	"math"
	"slices"
	"testing"

	"yard/api"
	"yard/yard"
)

func ExampleFar() {
	y := api.Yard{
		Rows: 2, Cols: 3, Cells: "....#.",
		Carts:  []api.Cart{{From: 0, To: 5}},
		Budget: 100,
	}
	fmt.Println(yard.Check(y))
	fmt.Println(yard.Far(y, 5))
	// Output:
	// 0 0
	// [3 2 1 4 -1 0] 0
}

func TestFar(t *testing.T) {
	for _, c := range []struct {
		y    api.Yard
		cell int
		want []int
	}{
		{made(".", 0, 0), 0, []int{0}},
		{made("...", 0, 2), 1, []int{1, 0, 1}},
		// Carts stand in the way of nothing.
		{made("...", 1, 1, 2, 0), 2, []int{2, 1, 0}},
		// The end of a row is not beside the next one's beginning.
		{made("..#/#..", 0, 0), 0, []int{0, 1, -1, -1, 2, 3}},
		{made(".#/#./.#", 0, 0), 3, []int{-1, -1, -1, 0, -1, -1}},
		{made("...#/#.#./...#", 0, 0), 3 + 4, []int{-1, -1, -1, -1, -1, -1, -1, 0, -1, -1, -1, -1}},
		{made("...../####./...../.####/.....", 0, 0), 24, []int{
			16, 15, 14, 13, 12, -1, -1, -1, -1, 11, 6, 7, 8, 9, 10, 5, -1, -1, -1, -1, 4, 3, 2, 1, 0,
		}},
	} {
		if l, e := yard.Far(c.y, c.cell); !slices.Equal(l, c.want) || e != api.OK {
			t.Errorf("P4: Far(%v, %d) = %v, %d, want %v", c.y, c.cell, l, e, c.want)
		}
	}
}

func TestFarToNoCell(t *testing.T) {
	y := made(".#./..#", 0, 2)
	for _, cell := range []int{1, 5, -1, 6, 7, math.MinInt, math.MaxInt} {
		if l, e := yard.Far(y, cell); l != nil || e != api.ErrArg {
			t.Errorf("P4: Far(%v, %d) = %v, %d, want %d", y, cell, l, e, api.ErrArg)
		}
	}
}

// stepsBetween works out how far it is between any two cells, by joining ways at each cell in turn.
func stepsBetween(y api.Yard) [][]int {
	const none = 1000
	n := len(y.Cells)
	steps := make([][]int, n)
	for a := range n {
		steps[a] = slices.Repeat([]int{none}, n)
		for b := range n {
			rows, cols := a/y.Cols-b/y.Cols, a%y.Cols-b%y.Cols
			if apart := rows*rows + cols*cols; apart <= 1 && y.Cells[a] == '.' && y.Cells[b] == '.' {
				steps[a][b] = apart
			}
		}
	}
	for by := range n {
		for a := range n {
			for b := range n {
				steps[a][b] = min(steps[a][b], steps[a][by]+steps[by][b])
			}
		}
	}
	for a := range n {
		for b := range n {
			if steps[a][b] >= none {
				steps[a][b] = -1
			}
		}
	}
	return steps
}

// Every yard of some sides, to every cell.
func TestFarEverywhere(t *testing.T) {
	for _, sides := range [][2]int{{1, 1}, {1, 6}, {6, 1}, {2, 3}, {3, 2}, {3, 3}, {2, 5}, {5, 2}} {
		n := sides[0] * sides[1]
		for walls := range 1<<n - 1 {
			y := api.Yard{Rows: sides[0], Cols: sides[1], Budget: 1}
			start := -1
			for cell := range n {
				if walls>>cell&1 == 1 {
					y.Cells += "#"
				} else {
					y.Cells += "."
					start = cell
				}
			}
			y.Carts = []api.Cart{{From: start, To: start}}
			farEverywhere(t, y)
		}
	}
}

func farEverywhere(t *testing.T, y api.Yard) {
	t.Helper()
	steps := stepsBetween(y)
	for cell := range len(y.Cells) {
		l, e := yard.Far(y, cell)
		if y.Cells[cell] == '#' {
			if l != nil || e != api.ErrArg {
				t.Fatalf("P4: Far(%v, %d) = %v, %d, want %d", y, cell, l, e, api.ErrArg)
			}
		} else if !slices.Equal(l, steps[cell]) || e != api.OK {
			t.Fatalf("P4: Far(%v, %d) = %v, %d, want %v", y, cell, l, e, steps[cell])
		}
	}
}
