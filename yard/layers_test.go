package yard_test

import (
	"fmt"
	"math"
	"math/rand"
	"slices"
	"testing"

	"yard/api"
	"yard/yard"
)

func ExampleLayers() {
	y := api.Yard{Rows: 2, Cols: 2, Cells: "....", Carts: []api.Cart{{From: 0, To: 3}}, Budget: 100}
	fmt.Println(yard.Layers(y, 0, nil, 2))
	fmt.Println(yard.Layers(y, 0, nil, 3))
	// Output:
	// [[0] [1 2] [3]] 0
	// [[0] [0 1 2] [1 2] [3]] 0
}

// layersAre: Layers answers with these lists; no lists: it tells that there is no path.
func layersAre(t *testing.T, y api.Yard, rules []api.Rule, cost int, want [][]int) {
	t.Helper()
	layers, e := yard.Layers(y, 0, rules, cost)
	wanted := api.OK
	if want == nil {
		wanted = api.ErrNone
	}
	if e != wanted || (layers == nil) != (want == nil) || !slices.EqualFunc(layers, want, slices.Equal) {
		t.Errorf("P6: Layers(%v, %v, %d) = %v, %d, want %v, %d", y, rules, cost, layers, e, want, wanted)
	}
}

func TestLayers(t *testing.T) {
	line, square, home := made("...", 0, 2), made("../..", 0, 3), made("..", 0, 0)
	for _, c := range []struct {
		y     api.Yard
		rules []api.Rule
		cost  int
		want  [][]int
	}{
		{square, nil, 0, nil}, {square, nil, 1, nil},
		{square, []api.Rule{off(1, 1)}, 2, [][]int{{0}, {2}, {3}}},
		{square, []api.Rule{way(1, 3, 1)}, 2, [][]int{{0}, {2}, {3}}},
		{square, []api.Rule{way(1, 3, 2)}, 3, [][]int{{0}, {0, 2}, {2}, {3}}},
		{square, []api.Rule{off(0, 0)}, 2, nil}, {square, []api.Rule{be(0, 0)}, 2, [][]int{{0}, {1, 2}, {3}}},
		{square, []api.Rule{be(1, 0)}, 2, nil},
		{made("#./..", 1, 2), nil, 2, [][]int{{1}, {3}, {2}}}, {made(".#.", 0, 2), nil, 7, nil},

		// The path passes its To, and waits there; but it does not end with waiting.
		{line, nil, 3, [][]int{{0}, {0, 1}, {1}, {2}}},
		{line, nil, 5, [][]int{{0}, {0, 1}, {0, 1, 2}, {0, 1, 2}, {1}, {2}}},
		{line, []api.Rule{be(2, 2)}, 3, nil}, {line, []api.Rule{be(2, 2)}, 4, [][]int{{0}, {1}, {2}, {1}, {2}}},
		{line, []api.Rule{be(2, 2)}, 5, [][]int{{0}, {1}, {2}, {1, 2}, {1}, {2}}},
		{line, []api.Rule{be(2, 2), way(2, 1, 3)}, 5, [][]int{{0}, {1}, {2}, {1}, {1}, {2}}},

		// From To to To: nothing, or away and back.
		{home, nil, 0, [][]int{{0}}}, {home, nil, 1, nil}, {home, nil, 2, [][]int{{0}, {1}, {0}}},
		{home, nil, 3, [][]int{{0}, {0, 1}, {1}, {0}}}, {home, []api.Rule{way(0, 0, 0)}, 0, nil},
		{made(".", 0, 0), nil, 0, [][]int{{0}}}, {made(".", 0, 0), nil, 1, nil}, {made(".", 0, 0), nil, 60, nil},
		{home, []api.Rule{off(0, 0)}, 0, nil}, {home, []api.Rule{off(0, 0)}, 2, nil},

		// Rules at the path's end and behind it.
		{line, []api.Rule{off(2, 2)}, 2, nil}, {line, []api.Rule{off(2, 3)}, 2, nil}, {line, []api.Rule{off(2, 60)}, 2, nil},
		{line, []api.Rule{way(2, 2, 2)}, 2, nil}, {line, []api.Rule{way(2, 2, 60)}, 60, nil}, {line, []api.Rule{off(2, 60)}, 60, nil},
		{line, []api.Rule{way(2, 2, 1)}, 2, [][]int{{0}, {1}, {2}}}, {line, []api.Rule{way(2, 1, 9), way(2, 0, 9)}, 2, [][]int{{0}, {1}, {2}}},
		{line, []api.Rule{be(2, 60)}, 2, [][]int{{0}, {1}, {2}}}, {line, []api.Rule{be(1, 60)}, 2, nil}, {line, []api.Rule{be(1, 60)}, 60, nil},
		{home, []api.Rule{off(0, 60)}, 0, nil}, {home, []api.Rule{way(0, 0, 60)}, 60, nil}, {home, []api.Rule{off(1, 60)}, 0, [][]int{{0}}},
		{line, []api.Rule{off(2, 2)}, 3, [][]int{{0}, {0, 1}, {1}, {2}}},
	} {
		layersAre(t, c.y, c.rules, c.cost, c.want)
	}
}

func TestLayersOfTheGreatestCost(t *testing.T) {
	y := made("..", 0, 1)
	want := slices.Repeat([][]int{{0, 1}}, 61)
	want[0], want[59], want[60] = []int{0}, []int{0}, []int{1}
	layersAre(t, y, nil, 60, want)
	want[58] = []int{0}
	layersAre(t, y, []api.Rule{be(0, 58)}, 60, want)
	layersAre(t, y, []api.Rule{be(0, 58), be(1, 60)}, 60, want)
	layersAre(t, y, []api.Rule{be(1, 59)}, 60, nil)
	layersAre(t, y, []api.Rule{way(0, 1, 59)}, 60, nil)
	layersAre(t, y, []api.Rule{off(1, 60)}, 60, nil)
	layersAre(t, y, []api.Rule{way(1, 1, 60)}, 60, nil)
}

// Of a cart that is not the first: its own From and To.
func TestLayersOfEachCart(t *testing.T) {
	y := made("...", 0, 0, 2, 1)
	layers, e := yard.Layers(y, 1, nil, 1)
	if e != api.OK || !slices.EqualFunc(layers, [][]int{{2}, {1}}, slices.Equal) {
		t.Errorf("P6: Layers of the second cart: %v, %d", layers, e)
	}
}

// By what the words say: a cell is told, if some path is on it at that instant.
// The paths are all lists of cells of that length, held against the words one by one.
func TestLayersOfAllPaths(t *testing.T) {
	chance := rand.New(rand.NewSource(6))
	for range 150 {
		y := someYard(chance)
		if len(y.Cells) > 6 {
			continue
		}
		rules := someRules(chance, y, chance.Intn(6), 5)
		for cost := range 6 {
			layersAre(t, y, rules, cost, layersOf(y, rules, cost))
		}
	}
}

func layersOf(y api.Yard, rules []api.Rule, cost int) [][]int {
	var layers [][]int
	path := make([]int, cost+1)
	for {
		if isPath(y, y.Carts[0], path) && keeps(rules, path) {
			if layers == nil {
				layers = make([][]int, cost+1)
			}
			for at, cell := range path {
				if place, in := slices.BinarySearch(layers[at], cell); !in {
					layers[at] = slices.Insert(layers[at], place, cell)
				}
			}
		}
		// The next list, as a number is counted up.
		at := 0
		for ; at <= cost; at++ {
			if path[at]++; path[at] < len(y.Cells) {
				break
			}
			path[at] = 0
		}
		if at > cost {
			return layers
		}
	}
}

// Of longer paths, under rules up to the last instant: a cell is told,
// if there is still a path of that cost with one rule more, to be there.
func TestLayersOfLongPaths(t *testing.T) {
	chance := rand.New(rand.NewSource(7))
	found := 0
	for range 120 {
		y := someYard(chance)
		rules := someRules(chance, y, chance.Intn(9), []int{9, api.MaxTime}[chance.Intn(2)])
		cost := chance.Intn(14)
		if chance.Intn(8) == 0 {
			cost = api.MaxTime - chance.Intn(3)
		}
		var want [][]int
		if costs(y, y.Carts[0], rules, cost)[cost] {
			found++
			want = make([][]int, cost+1)
			for at := range want {
				for cell := range len(y.Cells) {
					if costs(y, y.Carts[0], append(slices.Clone(rules), be(cell, at)), cost)[cost] {
						want[at] = append(want[at], cell)
					}
				}
			}
		}
		layersAre(t, y, rules, cost, want)
	}
	if found < 30 || found > 110 {
		t.Errorf("of 120 only %d have a path: chance tests too little", found)
	}
}

// The least cost that Layers has an answer for is that of Alone's path, and that path is in its layers.
func TestLayersHoldAlonesPath(t *testing.T) {
	chance := rand.New(rand.NewSource(8))
	for range 300 {
		y := someYard(chance)
		rules := someRules(chance, y, chance.Intn(9), 20)
		path, _ := yard.Alone(y, 0, rules)
		for cost := range 61 {
			layers, e := yard.Layers(y, 0, rules, cost)
			if path == nil || cost < len(path)-1 {
				if layers != nil || e != api.ErrNone {
					t.Fatalf("P6: Layers(%v, %v, %d) = %v, %d, but Alone has %v", y, rules, cost, layers, e, path)
				}
				continue
			}
			if cost > len(path)-1 {
				break
			}
			for at, cell := range path {
				if e != api.OK || !slices.Contains(layers[at], cell) {
					t.Fatalf("P6: Layers(%v, %v, %d) = %v, %d, but Alone has %v", y, rules, cost, layers, e, path)
				}
			}
		}
	}
}

func TestLayersRefuses(t *testing.T) {
	y := made("..#", 0, 1, 1, 0)
	full := slices.Repeat([]api.Rule{off(0, 50)}, api.MaxRules)
	many := append(slices.Clone(full), off(0, 50))
	for _, c := range []struct {
		cart  int
		rules []api.Rule
		cost  int
		want  api.Errno
	}{
		{0, full, 1, api.OK}, {1, nil, 60, api.OK}, {1, nil, 0, api.ErrNone},
		{-1, nil, 1, api.ErrArg}, {2, nil, 1, api.ErrArg}, {math.MinInt, nil, 1, api.ErrArg}, {math.MaxInt, nil, 1, api.ErrArg},
		{0, nil, -1, api.ErrArg}, {0, nil, 61, api.ErrArg}, {0, nil, math.MinInt, api.ErrArg}, {0, nil, math.MaxInt, api.ErrArg},
		{2, many, 1, api.ErrArg}, {0, many, 61, api.ErrArg}, {0, []api.Rule{off(3, 0)}, -1, api.ErrArg},
		{0, many, 1, api.ErrRule}, {0, many, 0, api.ErrRule},
		{0, []api.Rule{off(0, 0), off(3, 0)}, 1, api.ErrRule},
	} {
		layers, e := yard.Layers(y, c.cart, c.rules, c.cost)
		if e != c.want || (layers == nil) != (e != api.OK) {
			t.Errorf("P6: Layers(%v, %d, %v, %d) = %v, %d, want %d", y, c.cart, c.rules, c.cost, layers, e, c.want)
		}
	}
	for _, rules := range withNoRule() {
		if layers, e := yard.Layers(y, 0, rules, 1); layers != nil || e != api.ErrRule {
			t.Errorf("P6: Layers(%v, 0, %v, 1) = %v, %d, want %d", y, rules, layers, e, api.ErrRule)
		}
	}
}
