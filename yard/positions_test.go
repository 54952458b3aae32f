package yard_test

import (
	"fmt"
	"math/rand"
	"slices"
	"strings"
	"testing"

	"yard/api"
	"yard/yard"
)

func ExamplePositions() {
	y := api.Yard{Rows: 1, Cols: 3, Cells: "...", Carts: []api.Cart{{From: 0, To: 2}, {From: 2, To: 0}}, Budget: 100}
	fmt.Println(yard.Positions(y))
	y.Budget = 2
	fmt.Println(yard.Positions(y))
	// Output:
	// 3 false 0
	// 0 false 10
}

// counted: Positions tells a number and whether the Tos are among them; with less budget than that, ErrMany.
func counted(t *testing.T, y api.Yard, n int, arrives bool) {
	t.Helper()
	for _, budget := range []int{1, n / 2, n - 1, n, n + 1, api.MaxBudget} {
		if budget < 1 || budget > api.MaxBudget {
			continue
		}
		y.Budget = budget
		wantN, wantArrives, want := n, arrives, api.OK
		if n > budget {
			wantN, wantArrives, want = 0, false, api.ErrMany
		}
		if m, some, e := yard.Positions(y); m != wantN || some != wantArrives || e != want {
			t.Errorf("P8: Positions(%v) = %d, %t, %d, want %d, %t, %d", y, m, some, e, wantN, wantArrives, want)
		}
	}
}

func TestPositions(t *testing.T) {
	for _, c := range []struct {
		y       api.Yard
		n       int
		arrives bool
	}{
		// One cart comes to all cells to which there is a way.
		{made(".", 0, 0), 1, true}, {made("..", 0, 1), 2, true}, {made(".#.", 0, 2), 1, false}, {made("..#.", 3, 0), 1, false},
		{made("..#/#../...", 0, 8), 7, true}, {made("..#/#..", 0, 5), 4, true}, {made(".#/#.", 0, 3), 1, false},
		// In a row carts keep their order: so many ways there are to choose their cells.
		{made("..", 0, 1, 1, 0), 1, false}, {made("..", 0, 0, 1, 1), 1, true},
		{made("......", 0, 4, 5, 5), 15, true}, {made("......", 0, 5, 5, 4), 15, false},
		{made("./././././.", 0, 3, 1, 4, 2, 5), 20, true}, {made("......", 0, 2, 1, 3, 2, 4, 3, 5), 15, true},
		{made("......", 0, 2, 1, 3, 2, 5, 3, 4), 15, false},
		// Each on its own side of a wall.
		{made("..#...", 0, 1, 3, 5), 6, true}, {made("..#...", 0, 3, 4, 1), 6, false}, {made(".#.#.", 0, 0, 2, 2, 4, 4), 1, true},
		// All go round at once, where no one could go alone.
		{made("../..", 0, 1, 1, 3, 3, 2, 2, 0), 4, true}, {made("../..", 0, 3, 1, 2, 3, 0, 2, 1), 4, true},
		{made("../..", 0, 1, 1, 0, 2, 2, 3, 3), 4, false}, {made("../..", 0, 0, 1, 2, 2, 1), 12, false}, {made("../..", 0, 2, 1, 0, 2, 1), 12, true},
		{made("../..", 0, 0, 1, 1, 2, 2), 12, true}, {made("../..", 0, 3, 3, 0), 12, true},
		// A side room lets them pass.
		{made(".../#.#", 0, 2, 2, 0), 12, true}, {made(".../.#.", 0, 2, 2, 0), 10, false},
		{made(".../...", 0, 1, 1, 2, 2, 0), 120, true}, {made(".../...", 0, 0, 1, 1, 2, 2, 3, 4), 360, true},
		{made(".../.../...", 0, 8, 8, 0, 2, 6, 6, 2), 3024, true},
	} {
		counted(t, c.y, c.n, c.arrives)
	}
}

// The greatest numbers: of a yard with almost as many positions as may be looked at, and of the greatest yard.
func TestPositionsAtTheMost(t *testing.T) {
	counted(t, made("....../....../....../....../####../####..", 0, 35, 35, 0, 5, 5), 28*27*26, true)
	counted(t, made("....../......", 0, 11, 11, 0, 5, 5, 6, 6), 12*11*10*9, true)
	full := strings.Repeat("....../", 5) + "......"
	counted(t, made(full, 0, 35), 36, true)
	counted(t, made(full, 0, 35, 35, 0), 36*35, true)
	counted(t, made(full, 0, 35, 35, 0, 5, 30), 36*35*34, true)
	counted(t, made(full, 0, 35, 35, 0, 5, 30, 30, 5), 36*35*34*33, true)
}

// The budget is held against the number of all, not against how far the Tos are.
func TestPositionsBudget(t *testing.T) {
	y := made("......", 0, 0)
	counted(t, y, 6, true)
	y = changed(made("....#./#####./......", 0, 3), func(y *api.Yard) { y.Budget = 3 })
	if n, arrives, e := yard.Positions(y); n != 0 || arrives || e != api.ErrMany {
		t.Errorf("P8: Positions(%v) = %d, %t, %d, want %d", y, n, arrives, e, api.ErrMany)
	}
	y.Budget = 4
	if n, arrives, e := yard.Positions(y); n != 4 || !arrives || e != api.OK {
		t.Errorf("P8: Positions(%v) = %d, %t, %d, want 4", y, n, arrives, e)
	}
}

// mayGoAll: from one list of cells to another, each cart as it may, no two on one cell or swapping.
func mayGoAll(y api.Yard, here, there []int) bool {
	for i := range here {
		if !mayGo(y, here[i], there[i]) {
			return false
		}
		for j := range i {
			if there[i] == there[j] || there[i] == here[j] && there[j] == here[i] {
				return false
			}
		}
	}
	return true
}

// allLists: of n cells of a yard, each list that there is.
func allLists(y api.Yard, n int) [][]int {
	lists := [][]int{nil}
	for range n {
		var longer [][]int
		for _, list := range lists {
			for cell := range len(y.Cells) {
				longer = append(longer, append(append([]int(nil), list...), cell))
			}
		}
		lists = longer
	}
	return lists
}

// wordsPositions works out from all lists of cells, by the document's words, which are positions of the yard.
func wordsPositions(y api.Yard) (int, bool) {
	var froms, tos []int
	for _, c := range y.Carts {
		froms, tos = append(froms, c.From), append(tos, c.To)
	}
	reached, left := [][]int{froms}, allLists(y, len(y.Carts))
	arrives := false
	for next := 0; next < len(reached); next++ {
		var still [][]int
		for _, list := range left {
			switch {
			case slices.Equal(list, froms):
			case mayGoAll(y, reached[next], list):
				reached = append(reached, list)
			default:
				still = append(still, list)
			}
		}
		left = still
		arrives = arrives || slices.Equal(reached[next], tos)
	}
	return len(reached), arrives
}

func TestPositionsByTheWords(t *testing.T) {
	chance := rand.New(rand.NewSource(10))
	arrived := 0
	for range 250 {
		y := someYard(chance)
		y.Carts = someCarts(chance, y, 1+chance.Intn(api.MaxCarts))
		if len(y.Cells) > 6 && len(y.Carts) > 3 {
			y.Carts = y.Carts[:3]
		}
		n, arrives := wordsPositions(y)
		counted(t, y, n, arrives)
		if arrives {
			arrived++
		}
	}
	if arrived < 50 || arrived > 200 {
		t.Errorf("in %d of 250 yards all carts arrive: chance tests too little", arrived)
	}
}
