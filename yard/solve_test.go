package yard_test

import (
	"fmt"
	"math/rand"
	"slices"
	"strings"
	"testing"

	"yard/api"
	"yard/yard"
)

func ExampleSolve() {
	y := api.Yard{Rows: 1, Cols: 3, Cells: "...", Carts: []api.Cart{{From: 0, To: 2}}, Budget: 100}
	fmt.Println(yard.Solve(y))
	// They cannot pass.
	y.Carts = []api.Cart{{From: 0, To: 2}, {From: 2, To: 0}}
	fmt.Println(yard.Solve(y))
	// There are 3 positions.
	y.Budget = 2
	fmt.Println(yard.Solve(y))
	// Output:
	// [[0 1 2]] 2 0
	// [] 0 9
	// [] 0 10
}

const noPlan = -1

// solved: Solve tells a good plan and its cost, which is this one, and the same once more; or that there is none.
func solved(t *testing.T, y api.Yard, cost int) {
	t.Helper()
	plan, n, e := yard.Solve(y)
	if again, m, f := yard.Solve(y); m != n || f != e || !slices.EqualFunc(again, plan, slices.Equal) {
		t.Errorf("P9: Solve(%v) = %v, %d, %d, once more %v, %d, %d", y, plan, n, e, again, m, f)
	}
	if cost == noPlan {
		if plan != nil || n != 0 || e != api.ErrNone {
			t.Errorf("P9: Solve(%v) = %v, %d, %d, want none", y, plan, n, e)
		}
		return
	}
	if sum, good := goodPlan(y, plan); e != api.OK || n != cost || !good || sum != n {
		t.Errorf("P9: Solve(%v) = %v, %d, %d, want a good plan of the cost %d", y, plan, n, e, cost)
	}
}

// goodPlan works out by the document's words whether a plan is good, and its cost.
func goodPlan(y api.Yard, plan [][]int) (int, bool) {
	if len(plan) != len(y.Carts) {
		return 0, false
	}
	cost, longest := 0, 0
	for i, c := range y.Carts {
		if !isPath(y, c, plan[i]) {
			return 0, false
		}
		cost += len(plan[i]) - 1
		longest = max(longest, len(plan[i]))
	}
	for at := range longest {
		if !mayGoAll(y, cellsAt(plan, at), cellsAt(plan, at+1)) {
			return 0, false
		}
	}
	// Of the Froms it is known that they are not the same.
	return cost, true
}

// cellsAt: where the carts are at an instant, behind the ends of their lists too.
func cellsAt(plan [][]int, at int) []int {
	var cells []int
	for _, path := range plan {
		cells = append(cells, path[min(at, len(path)-1)])
	}
	return cells
}

// wide: a yard with the greatest budget.
func wide(rows string, ends ...int) api.Yard {
	return changed(made(rows, ends...), func(y *api.Yard) { y.Budget = api.MaxBudget })
}

func TestSolveOneCart(t *testing.T) {
	for _, c := range []struct {
		y    api.Yard
		cost int
	}{
		{wide(".", 0, 0), 0}, {wide("...", 1, 1), 0}, {wide("..", 0, 1), 1}, {wide("..", 1, 0), 1}, {wide("./.", 0, 1), 1},
		{wide("...", 0, 2), 2}, {wide(".#.", 0, 2), noPlan}, {wide(".#/#.", 0, 3), noPlan}, {wide(".#.", 2, 2), 0},
		{wide("..#/#../...", 0, 8), 4}, {wide("......", 5, 0), 5}, {wide("../../..", 1, 2), 2},
		{wide("....../#####./....../.#####/......", 0, 29), 19},
		{wide(strings.Repeat("....../", 5)+"......", 0, 35), 10}, {wide(strings.Repeat("....../", 5)+"......", 30, 5), 10},
	} {
		solved(t, c.y, c.cost)
	}
}

// To pass, one must step aside or wait, and that is paid for.
func TestSolvePassing(t *testing.T) {
	for _, c := range []struct {
		y    api.Yard
		cost int
	}{
		{wide(".../#.#", 0, 2, 2, 0), 7}, {wide("#.#/...", 3, 5, 5, 3), 7}, {wide(".#/../.#", 0, 4, 4, 0), 7},
		{wide(".../...", 0, 2, 2, 0), 6}, {wide("../..", 0, 3, 3, 0), 4}, {wide("../..", 0, 1, 1, 0), 4},
		{wide("#.#/.../#.#", 1, 7, 3, 5), 5}, {wide("#.#/.../#.#", 1, 7, 7, 1), 7},
		{wide("...", 0, 2, 2, 0), noPlan}, {wide(".../.#.", 0, 2, 2, 0), noPlan}, {wide("..", 0, 1, 1, 0), noPlan},
		{wide("......", 0, 2, 1, 3, 2, 5, 3, 4), noPlan}, {wide("../..", 0, 1, 1, 0, 2, 2), noPlan},
		// Behind one another they go at once; so they do all round.
		{wide("....", 0, 1, 1, 2, 2, 3), 3}, {wide("../..", 0, 1, 1, 3, 3, 2, 2, 0), 4}, {wide("../..", 0, 3, 1, 2, 3, 0, 2, 1), 8},
		{wide("......", 0, 3, 1, 4, 2, 5), 9}, {wide("..#...", 0, 1, 3, 5), 3}, {wide("..#...", 0, 3, 4, 1), noPlan},
		{wide(".../.../...", 0, 8, 8, 0, 2, 6), 12},
	} {
		solved(t, c.y, c.cost)
	}
}

// To stay at To costs nothing, but a cart that leaves it again has paid for being there.
func TestSolveAtHome(t *testing.T) {
	for _, c := range []struct {
		y    api.Yard
		cost int
	}{
		{wide(".#.", 0, 0, 2, 2), 0}, {wide("....", 0, 0, 1, 3), 2}, {wide("......", 5, 5, 0, 4), 4},
		{wide("..", 0, 0, 1, 1), 0}, {wide("../..", 0, 0, 1, 1, 2, 2, 3, 3), 0},
		{wide("...", 1, 1, 0, 2), noPlan},
		// It makes room at once and is back at 2; or, where the other comes later, it leaves later and pays for more.
		{wide(".../#.#", 1, 1, 0, 2), 4}, {wide("..../#.##", 1, 1, 0, 3), 5}, {wide("....../###.##", 3, 3, 0, 5), 9},
		{wide("....../###.##", 0, 5, 3, 3), 9},
		// One waits at home until a second has gone by, and for a third too.
		{wide(".../#.#/#.#", 1, 1, 0, 2), 4}, {wide("../..", 0, 0, 1, 2, 2, 1), noPlan},
		{wide("...../##.##", 2, 2, 0, 3, 1, 4), 9},
	} {
		solved(t, c.y, c.cost)
	}
}

// With just as many positions as the budget there is an answer; with one more there is none, whatever it would be.
func TestSolveBudget(t *testing.T) {
	full := strings.Repeat("....../", 5) + "......"
	for _, c := range []struct {
		y       api.Yard
		n, cost int
	}{
		{made(".", 0, 0), 1, 0}, {made("..", 0, 0), 2, 0}, {made("...", 0, 2), 3, 2}, {made(".#.", 0, 2), 1, noPlan},
		{made("...", 0, 2, 2, 0), 3, noPlan}, {made("../..", 0, 3, 3, 0), 12, 4}, {made(".../#.#", 0, 2, 2, 0), 12, 7},
		{made(".../...", 0, 0, 1, 1, 2, 2, 3, 4), 360, 1}, {made(".../...", 0, 2, 2, 0, 3, 5, 5, 3), 360, 14}, {made(full, 0, 35, 35, 0), 36 * 35, 20},
		{made("....../....../....../....../####../####..", 0, 35, 35, 0, 5, 5), 28 * 27 * 26, 20},
		{made(full, 0, 35, 35, 0, 5, 30), 36 * 35 * 34, noPlan},
	} {
		for _, budget := range []int{1, c.n / 2, c.n - 1, c.n, c.n + 1, api.MaxBudget} {
			if budget < 1 || budget > api.MaxBudget {
				continue
			}
			c.y.Budget = budget
			if budget >= c.n {
				solved(t, c.y, c.cost)
				continue
			}
			if plan, n, e := yard.Solve(c.y); plan != nil || n != 0 || e != api.ErrMany {
				t.Errorf("P9: Solve(%v) = %v, %d, %d, want %d", c.y, plan, n, e, api.ErrMany)
			}
		}
	}
}

func TestSolveNoYard(t *testing.T) {
	good := made("...", 0, 2, 2, 0)
	for _, c := range []struct {
		y    api.Yard
		want api.Errno
	}{
		{api.Yard{}, api.ErrSide},
		{changed(good, func(y *api.Yard) { y.Cells = "..x" }), api.ErrCells},
		{changed(good, func(y *api.Yard) { y.Carts = nil }), api.ErrCarts},
		{changed(good, func(y *api.Yard) { y.Carts[1].To = 3 }), api.ErrPlace},
		{changed(good, func(y *api.Yard) { y.Cells = "..#" }), api.ErrPlace},
		{changed(good, func(y *api.Yard) { y.Carts[1].To = 2 }), api.ErrTwice},
		{changed(good, func(y *api.Yard) { y.Budget = 0 }), api.ErrBudget},
		{changed(good, func(y *api.Yard) { y.Budget = api.MaxBudget + 1 }), api.ErrBudget},
	} {
		if plan, n, e := yard.Solve(c.y); plan != nil || n != 0 || e != c.want {
			t.Errorf("P9: Solve(%v) = %v, %d, %d, want %d", c.y, plan, n, e, c.want)
		}
	}
}

// words: of a yard, all lists of cells that are no walls and no two the same, and from which to which one may go.
type words struct {
	y     api.Yard
	lists [][]int
	goes  [][]bool
}

func wordsOf(y api.Yard) words {
	w := words{y: y}
	w.lists = slices.DeleteFunc(allLists(y, len(y.Carts)), func(list []int) bool { return !apart(y, list) })
	for _, here := range w.lists {
		var goes []bool
		for _, there := range w.lists {
			goes = append(goes, mayGoAll(y, here, there))
		}
		w.goes = append(w.goes, goes)
	}
	return w
}

// apart: are the cells no walls, and no two the same?
func apart(y api.Yard, list []int) bool {
	for i, cell := range list {
		if y.Cells[cell] != '.' || slices.Contains(list[:i], cell) {
			return false
		}
	}
	return true
}

// leads: may one come from the Froms to the Tos so that each cart stays from the instant on that is its cost?
func (w words) leads(costs []int) bool {
	here := make([]bool, len(w.lists))
	for i, list := range w.lists {
		here[i] = !slices.ContainsFunc(w.y.Carts, func(c api.Cart) bool { return list[slices.Index(w.y.Carts, c)] != c.From })
	}
	for at := range slices.Max(costs) + 1 {
		there := make([]bool, len(w.lists))
		some := false
		for i, list := range w.lists {
			if here[i] && w.allStay(list, costs, at) {
				some = true
				for j, goes := range w.goes[i] {
					there[j] = there[j] || goes
				}
			}
		}
		if !some {
			return false
		}
		here = there
	}
	return true
}

// allStay: are the carts that stay at an instant at their Tos?
func (w words) allStay(cells, costs []int, at int) bool {
	for i, c := range w.y.Carts {
		if at >= costs[i] && cells[i] != c.To {
			return false
		}
	}
	return true
}

// shares: all ways to share a sum among n carts.
func shares(n, sum int) [][]int {
	if n == 1 {
		return [][]int{{sum}}
	}
	var all [][]int
	for first := range sum + 1 {
		for _, rest := range shares(n-1, sum-first) {
			all = append(all, append([]int{first}, rest...))
		}
	}
	return all
}

// wordsCost works out the least cost by the document's words: sum by sum, and every share of it.
func wordsCost(y api.Yard) int {
	if _, arrives := wordsPositions(y); !arrives {
		return noPlan
	}
	w := wordsOf(y)
	for sum := 0; ; sum++ {
		for _, costs := range shares(len(y.Carts), sum) {
			if w.leads(costs) {
				return sum
			}
		}
	}
}

func TestSolveByTheWords(t *testing.T) {
	chance := rand.New(rand.NewSource(11))
	ofKind := [3]int{} // none; each cart as if it were alone; dearer
	for range 500 {
		y := someYard(chance)
		y.Budget = api.MaxBudget
		y.Carts = someCarts(chance, y, 2+chance.Intn(api.MaxCarts-1))
		if len(y.Cells) > 6 && len(y.Carts) > 2 {
			y.Carts = y.Carts[:2]
		}
		cost := wordsCost(y)
		solved(t, y, cost)
		switch {
		case cost == noPlan:
			ofKind[0]++
		case cost == aloneCost(y):
			ofKind[1]++
		default:
			ofKind[2]++
		}
	}
	if slices.Min(ofKind[:]) < 30 {
		t.Errorf("none, as if alone, dearer: %v: chance tests too little", ofKind)
	}
}

// aloneCost: what it would cost if each cart were alone.
func aloneCost(y api.Yard) int {
	sum := 0
	for _, c := range y.Carts {
		steps, _ := yard.Far(y, c.To)
		sum += steps[c.From]
	}
	return sum
}

// mirrored: the yard seen from the other side, its carts in another order.
func mirrored(y api.Yard) api.Yard {
	return changed(y, func(y *api.Yard) {
		cells := []byte(y.Cells)
		slices.Reverse(cells)
		y.Cells = string(cells)
		slices.Reverse(y.Carts)
		for i, c := range y.Carts {
			y.Carts[i] = api.Cart{From: len(cells) - 1 - c.From, To: len(cells) - 1 - c.To}
		}
	})
}

// turned: rows for columns.
func turned(y api.Yard) api.Yard {
	return changed(y, func(y *api.Yard) {
		var cells []byte
		for col := range y.Cols {
			for row := range y.Rows {
				cells = append(cells, y.Cells[row*y.Cols+col])
			}
		}
		there := func(cell int) int { return cell%y.Cols*y.Rows + cell/y.Cols }
		for i, c := range y.Carts {
			y.Carts[i] = api.Cart{From: there(c.From), To: there(c.To)}
		}
		y.Cells, y.Rows, y.Cols = string(cells), y.Cols, y.Rows
	})
}

// Greater yards: the cost is that of the same yard seen from another side, and never less than if each were alone.
func TestSolveFromAllSides(t *testing.T) {
	chance := rand.New(rand.NewSource(12))
	dearer := 0
	for range 40 {
		y := greatYard(chance)
		_, cost, e := yard.Solve(y)
		if e == api.ErrNone {
			cost = noPlan
		}
		for _, same := range []api.Yard{y, mirrored(y), turned(y), turned(mirrored(y))} {
			solved(t, same, cost)
		}
		if cost != noPlan && cost < aloneCost(y) {
			t.Errorf("P9: Solve(%v) costs %d, less than %d", y, cost, aloneCost(y))
		}
		if cost > aloneCost(y) {
			dearer++
		}
	}
	if dearer < 15 {
		t.Errorf("%d of 40 yards are dearer than if each were alone: chance tests too little", dearer)
	}
}

// greatYard: of the greatest sides and four carts, with no more free cells than the budget allows.
func greatYard(chance *rand.Rand) api.Yard {
	y := api.Yard{Rows: api.MaxSide, Cols: api.MaxSide - chance.Intn(2), Budget: api.MaxBudget}
	cells := []byte(strings.Repeat("#", y.Rows*y.Cols))
	at := chance.Intn(len(cells))
	for left := 9; left > 0; {
		if cells[at] == '#' {
			cells[at], left = '.', left-1
		}
		row, col := at/y.Cols, at%y.Cols
		switch chance.Intn(4) {
		case 0:
			row = min(row+1, y.Rows-1)
		case 1:
			row = max(row-1, 0)
		case 2:
			col = min(col+1, y.Cols-1)
		case 3:
			col = max(col-1, 0)
		}
		at = row*y.Cols + col
	}
	y.Cells = string(cells)
	y.Carts = someCarts(chance, y, api.MaxCarts)
	return y
}
