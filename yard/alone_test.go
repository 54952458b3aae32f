package yard_test

import (
	"fmt"
	"math"
	"math/rand"
	"slices"
	"strings"
	"testing"

	"yard/api"
	"yard/yard"
)

func ExampleAlone() {
	y := api.Yard{Rows: 1, Cols: 3, Cells: "...", Carts: []api.Cart{{From: 0, To: 2}}, Budget: 100}
	fmt.Println(yard.Alone(y, 0, nil))
	fmt.Println(yard.Alone(y, 0, []api.Rule{{Kind: api.KeepOff, Cell: 1, At: 1}}))
	// Output:
	// [0 1 2] 0
	// [0 0 1 2] 0
}

const none = -1

// aloneCosts: Alone answers with a path that keeps the rules and has a cost, or tells that there is none.
func aloneCosts(t *testing.T, y api.Yard, cart int, rules []api.Rule, cost int) {
	t.Helper()
	path, e := yard.Alone(y, cart, rules)
	switch {
	case cost == none:
		if path != nil || e != api.ErrNone {
			t.Errorf("P5: Alone(%v, %d, %v) = %v, %d, want none", y, cart, rules, path, e)
		}
	case e != api.OK || len(path) != cost+1:
		t.Errorf("P5: Alone(%v, %d, %v) = %v, %d, want a path of cost %d", y, cart, rules, path, e, cost)
	case !isPath(y, y.Carts[cart], path) || !keeps(rules, path):
		t.Errorf("P5: Alone(%v, %d, %v) = %v: no path, or it breaks a rule", y, cart, rules, path)
	}
}

func TestAloneWithoutRules(t *testing.T) {
	maze := made("....../#####./....../.#####/....../#####.", 0, 35, 35, 0, 5, 24, 12, 12)
	for cart, cost := range []int{20, 20, 9, 0} {
		aloneCosts(t, maze, cart, nil, cost)
	}
	aloneCosts(t, made(".", 0, 0), 0, nil, 0)
	aloneCosts(t, made("..", 1, 0), 0, nil, 1)
	aloneCosts(t, made(".#.", 0, 2), 0, nil, none)
	aloneCosts(t, made("..#/#..", 0, 5), 0, nil, 3)
	aloneCosts(t, made(".#/#.", 0, 3), 0, nil, none)
	// The end of a row is not beside the next one's beginning.
	aloneCosts(t, made("#../..#", 2, 3), 0, nil, 3)
	// Other carts stand in the way of nothing.
	aloneCosts(t, made("...", 1, 1, 0, 2), 1, nil, 2)
}

func TestAloneUnderRules(t *testing.T) {
	line, square, home := made("...", 0, 2), made("../..", 0, 3), made("..", 0, 0)
	for _, c := range []struct {
		y     api.Yard
		rules []api.Rule
		cost  int
	}{
		{line, []api.Rule{off(1, 1)}, 3},
		{line, []api.Rule{be(1, 4)}, 5},
		{line, []api.Rule{off(0, 0)}, none}, {line, []api.Rule{be(1, 0)}, none}, {line, []api.Rule{be(0, 0)}, 2},
		{line, []api.Rule{way(0, 1, 0)}, 3}, {line, []api.Rule{way(0, 0, 0)}, 2},
		{line, []api.Rule{way(0, 1, 0), way(0, 0, 0)}, none},
		{line, []api.Rule{way(0, 1, 1)}, 2}, // the cart is gone by then
		{line, []api.Rule{be(0, 1), be(2, 2)}, none}, {line, []api.Rule{be(1, 1), be(0, 1)}, none},
		{line, []api.Rule{be(1, 1), be(1, 1), be(1, 2)}, 3},
		{line, []api.Rule{off(0, 1), off(1, 1), off(2, 1)}, none},
		{square, []api.Rule{off(1, 1)}, 2}, {square, []api.Rule{off(2, 1), way(1, 3, 1)}, 3},
		{square, []api.Rule{way(0, 1, 0), way(0, 2, 0), way(0, 0, 0)}, none},
		{home, []api.Rule{off(0, 0)}, none},
		{home, []api.Rule{off(0, 1), off(1, 1)}, none},

		// A wall: it is kept off anyway, nothing goes from it or to it, and no cart can be there.
		{made("#./..", 1, 2), []api.Rule{off(0, 1), way(0, 0, 0), way(0, 2, 1), way(1, 0, 0)}, 2},
		{made("#./..", 1, 2), []api.Rule{be(0, 1)}, none},
		{made("#./..", 1, 2), []api.Rule{be(0, 60)}, none},

		// Next is neither Cell nor beside it: nothing is forbidden.
		{line, []api.Rule{way(0, 2, 0), way(0, 2, 1), way(1, -1, 1), way(1, 3, 1), way(2, math.MaxInt, 2)}, 2},
		{line, []api.Rule{way(0, math.MinInt, 0), way(2, 0, 9), way(2, -2, 60)}, 2},
		{made("../..", 1, 2), []api.Rule{way(1, 2, 0), way(1, 2, 1)}, 2},
	} {
		aloneCosts(t, c.y, 0, c.rules, c.cost)
	}
}

// Rules behind the path's end hold for the cart that stays at its To.
func TestAloneStaysAtTo(t *testing.T) {
	line, home := made("...", 0, 2), made("..", 0, 0)
	for _, c := range []struct {
		y     api.Yard
		rules []api.Rule
		cost  int
	}{
		{line, []api.Rule{off(2, 5)}, 6}, {line, []api.Rule{off(2, 2)}, 3}, {line, []api.Rule{off(2, 1)}, 2},
		{line, []api.Rule{way(2, 2, 9)}, 10}, {line, []api.Rule{way(2, 2, 1)}, 2}, {line, []api.Rule{way(2, 2, 2)}, 3},
		{line, []api.Rule{way(2, 1, 9), way(1, 1, 9), off(0, 9), off(1, 9)}, 2},
		{line, []api.Rule{be(2, 2), be(2, 60)}, 2}, {line, []api.Rule{be(2, 1)}, none},

		// A path that passes its To and comes back.
		{line, []api.Rule{be(2, 2), be(1, 3)}, 4}, {line, []api.Rule{be(2, 2), off(2, 8)}, 9},
		{line, []api.Rule{be(2, 2), be(2, 3), be(2, 4), way(2, 2, 6)}, 7},
		{line, []api.Rule{be(2, 4), be(0, 6)}, 8}, {line, []api.Rule{be(2, 2), be(0, 3)}, none},
		// It is to leave its To at 2 and may not.
		{line, []api.Rule{be(2, 2), way(2, 1, 2), off(2, 3)}, none},

		{home, []api.Rule{off(0, 1)}, 2}, {home, []api.Rule{off(0, 4)}, 5}, {home, []api.Rule{way(0, 0, 0)}, 2},
		{home, []api.Rule{be(1, 3)}, 4}, {home, []api.Rule{be(0, 3)}, 0}, {home, []api.Rule{off(1, 3), way(1, 0, 2), way(0, 1, 0)}, 0},
		{made(".", 0, 0), []api.Rule{off(0, 60)}, none}, {made(".", 0, 0), []api.Rule{way(0, 0, 60)}, none},

		// The last instant that a rule may have.
		{line, []api.Rule{off(2, 60)}, 61}, {line, []api.Rule{way(2, 2, 60)}, 61}, {line, []api.Rule{be(1, 60)}, 61},
		{line, []api.Rule{be(0, 60)}, 62}, {line, []api.Rule{be(0, 60), way(0, 1, 60)}, 63}, {line, []api.Rule{be(2, 60)}, 2},
		{line, []api.Rule{be(1, 60), way(1, 2, 60)}, 62}, {line, []api.Rule{off(0, 60), off(1, 60), off(2, 60)}, none},
		{home, []api.Rule{way(0, 0, 60)}, 61}, {home, []api.Rule{off(0, 60)}, 61},
	} {
		aloneCosts(t, c.y, 0, c.rules, c.cost)
	}
	maze := made("....../#####./....../.#####/....../#####.", 0, 35)
	aloneCosts(t, maze, 0, []api.Rule{be(0, 60)}, 80)
	aloneCosts(t, maze, 0, []api.Rule{be(0, 60), way(0, 1, 60)}, 81)
}

// Yards and rules by chance: the least cost, as it is worked out instant by instant.
func TestAloneIsLeast(t *testing.T) {
	chance := rand.New(rand.NewSource(5))
	found := 0
	for range 4000 {
		y := someYard(chance)
		rules := someRules(chance, y, chance.Intn(13), []int{4, 9, api.MaxTime}[chance.Intn(3)])
		cost := slices.Index(costs(y, y.Carts[0], rules, 90), true)
		aloneCosts(t, y, 0, rules, cost)
		if cost != none {
			found++
		}
	}
	if found < 1000 || found > 3900 {
		t.Errorf("of 4000 only %d have a path: chance tests too little", found)
	}
}

func TestAloneRefuses(t *testing.T) {
	y := made("..#", 0, 1, 1, 0)
	full := slices.Repeat([]api.Rule{off(0, 50)}, api.MaxRules)
	many := append(slices.Clone(full), off(0, 50))
	for _, c := range []struct {
		cart  int
		rules []api.Rule
		want  api.Errno
	}{
		{0, full, api.OK}, {1, nil, api.OK},
		{0, []api.Rule{off(2, 0), way(2, 5, 60), be(1, 60)}, api.OK},
		{-1, nil, api.ErrArg}, {2, nil, api.ErrArg}, {math.MinInt, nil, api.ErrArg}, {math.MaxInt, nil, api.ErrArg},
		{2, many, api.ErrArg}, {-1, []api.Rule{off(9, 9)}, api.ErrArg},
		{0, many, api.ErrRule}, {0, make([]api.Rule, 1000), api.ErrRule},
		// What is no rule goes ahead of what no path keeps.
		{0, []api.Rule{off(0, 0), off(3, 0)}, api.ErrRule},
	} {
		if path, e := yard.Alone(y, c.cart, c.rules); e != c.want || (path == nil) != (e != api.OK) {
			t.Errorf("P5: Alone(%v, %d, %v) = %v, %d, want %d", y, c.cart, c.rules, path, e, c.want)
		}
	}
	for _, rules := range withNoRule() {
		if path, e := yard.Alone(y, 0, rules); path != nil || e != api.ErrRule {
			t.Errorf("P5: Alone(%v, 0, %v) = %v, %d, want %d", y, rules, path, e, api.ErrRule)
		}
	}
}

// The greatest yard under the most rules: the call ends, and soon.
func TestAloneAtTheMost(t *testing.T) {
	y := made(strings.Repeat("....../", 5)+"......", 0, 35)
	var rules []api.Rule
	for at := 21; at <= api.MaxTime; at++ {
		rules = append(rules, off(35, at))
	}
	aloneCosts(t, y, 0, rules, 61)
}
