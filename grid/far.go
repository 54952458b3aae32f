package grid

import "yard/api"

const noWay = -1

// Far tells for each cell of a good yard how many steps it is from a free cell; -1 where there is no way.
func Far(y api.Yard, cell int) []int {
	steps := make([]int, len(y.Cells))
	for i := range steps {
		steps[i] = noWay
	}
	steps[cell] = 0
	// Each step may be taken back, so the ways from the cell are as long as those to it.
	reached := []int{cell}
	for next := 0; next < len(reached); next++ {
		here := reached[next]
		for _, there := range Moves(y, here) {
			if steps[there] == noWay {
				steps[there] = steps[here] + 1
				reached = append(reached, there)
			}
		}
	}
	return steps
}
