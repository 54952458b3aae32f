package yard_test

import (
	"math"
	"slices"
	"strings"
	"testing"

	"yard/api"
	"yard/yard"
)

type checked struct {
	name  string
	y     api.Yard
	e     api.Errno
	place int
}

func (c checked) run(t *testing.T) {
	t.Helper()
	if e, place := yard.Check(c.y); e != c.e || place != c.place {
		t.Errorf("P3: Check, %s: %d, %d, want %d, %d", c.name, e, place, c.e, c.place)
	}
}

func TestCheckGoodYards(t *testing.T) {
	six := strings.Repeat("....../", 5) + "......"
	for _, c := range []checked{
		{name: "one cell, a cart that stays", y: made(".", 0, 0)},
		{name: "one row", y: made("...#..", 0, 2)},
		{name: "one column", y: made("./././././.", 0, 5)},
		{name: "the most cells and carts", y: made(six, 0, 35, 35, 0, 5, 30, 30, 5)},
		{name: "carts that change places", y: made("..", 0, 1, 1, 0)},
		{name: "a cart's From is another's To", y: made("...", 0, 1, 1, 2)},
		{name: "no way from From to To", y: made(".#.", 0, 2)},
		{name: "the least budget", y: changed(made(".", 0, 0), func(y *api.Yard) { y.Budget = 1 })},
		{name: "the most budget", y: changed(made(".", 0, 0), func(y *api.Yard) { y.Budget = api.MaxBudget })},
	} {
		c.run(t)
	}
}

func TestCheckSides(t *testing.T) {
	for _, n := range []int{math.MinInt, -6, -1, 0, 7, 1 << 32, 1 << 62, math.MaxInt} {
		rows := changed(made("..", 0, 1), func(y *api.Yard) { y.Rows = n })
		cols := changed(made("..", 0, 1), func(y *api.Yard) { y.Cols = n })
		both := changed(made("..", 0, 1), func(y *api.Yard) { y.Rows, y.Cols = n, n })
		for _, y := range []api.Yard{rows, cols, both} {
			checked{"wrong sides", y, api.ErrSide, 0}.run(t)
		}
	}
	checked{"seven rows with all their cells", made("././././././.", 0, 0), api.ErrSide, 0}.run(t)
	checked{"seven columns with all their cells", made(".......", 0, 0), api.ErrSide, 0}.run(t)
	fits := changed(made("..", 0, 1), func(y *api.Yard) { y.Rows, y.Cols = -1, -2 })
	checked{"sides below nought whose product is that of the cells", fits, api.ErrSide, 0}.run(t)
	checked{"the empty yard", api.Yard{}, api.ErrSide, 0}.run(t)
}

func TestCheckCells(t *testing.T) {
	for _, c := range []struct {
		cells string
		place int
	}{
		{"", 0}, {".", 1}, {".....", 5}, {".......", 7}, {strings.Repeat(".", 1000), 1000},
		{"x....", 5}, {"xxxxxxx", 7}, // a wrong length goes ahead of a wrong byte
		{"x.....", 0}, {".....x", 5}, {"..x..y", 2}, {"..\x00...", 2}, {"...\n..", 3}, {"... ..", 3},
		{".../..", 3}, {"..\xff...", 2}, {"..:...", 2}, {"..é..", 2}, {"....é.", 7}, {"##\"...", 2},
	} {
		y := changed(made(".../...", 0, 5), func(y *api.Yard) { y.Cells = c.cells })
		checked{"cells " + c.cells, y, api.ErrCells, c.place}.run(t)
	}
}

func TestCheckCarts(t *testing.T) {
	for _, c := range []checked{
		{"no carts", made("..."), api.ErrCarts, 0},
		{"five carts", made("......", 0, 0, 1, 1, 2, 2, 3, 3, 4, 4), api.ErrCarts, 0},
		{"five carts, all wrong", made("..", 9, 9, 9, 9, 9, 9, 9, 9, 9, 9), api.ErrCarts, 0},

		{"From is a wall", made("#..", 0, 1), api.ErrPlace, 0},
		{"To is a wall", made("..#", 0, 2), api.ErrPlace, 0},
		{"the second's From is a wall", made("..#", 0, 1, 2, 0), api.ErrPlace, 1},
		{"the fourth's To is one behind the last", made("....", 0, 0, 1, 1, 2, 2, 3, 4), api.ErrPlace, 3},
		{"From below nought", made("..", -1, 0), api.ErrPlace, 0},
		{"the least From", made("..", math.MinInt, 0), api.ErrPlace, 0},
		{"the greatest To", made("..", 0, math.MaxInt), api.ErrPlace, 0},

		{"one From", made("...", 0, 1, 0, 2), api.ErrTwice, 1},
		{"one To", made("...", 0, 1, 2, 1), api.ErrTwice, 1},
		{"one From and one To", made("...", 0, 1, 0, 1), api.ErrTwice, 1},
		{"one From, first and last", made("....", 0, 0, 1, 1, 2, 2, 0, 3), api.ErrTwice, 3},
		{"one To, first and third", made("....", 0, 3, 1, 1, 2, 3, 3, 0), api.ErrTwice, 2},
		{"one To, second and third", made("....", 0, 3, 1, 1, 2, 1, 3, 0), api.ErrTwice, 2},
	} {
		c.run(t)
	}
}

func TestCheckBudget(t *testing.T) {
	for _, n := range []int{math.MinInt, -1, 0, api.MaxBudget + 1, math.MaxInt} {
		y := changed(made("..", 0, 1), func(y *api.Yard) { y.Budget = n })
		checked{"a wrong budget", y, api.ErrBudget, 0}.run(t)
	}
}

// Where several errors apply, the one named first is told, and of carts the first with any error.
func TestCheckOrder(t *testing.T) {
	for _, c := range []checked{
		{"a twice ahead of no place", made("..#", 0, 1, 0, 0, 2, 1), api.ErrTwice, 1},
		{"no place ahead of a twice", made("..#", 2, 1, 0, 0, 0, 1), api.ErrPlace, 0},
		{"no place and twice in one cart", made("..#", 0, 1, 0, 2), api.ErrPlace, 1},
		{"a wall twice", made("..#", 2, 0, 2, 1), api.ErrPlace, 0},
		{"twice, and no budget", changed(made("..", 0, 1, 0, 0), func(y *api.Yard) { y.Budget = 0 }), api.ErrTwice, 1},
		{"a To twice and no From", made("..#", 0, 1, -1, 1), api.ErrPlace, 1},
	} {
		c.run(t)
	}
	wrong := []struct {
		e      api.Errno
		place  int
		change func(*api.Yard)
	}{
		{api.ErrSide, 0, func(y *api.Yard) { y.Rows = 0 }},
		{api.ErrCells, 3, func(y *api.Yard) { y.Cells = "...:" }},
		{api.ErrCarts, 0, func(y *api.Yard) { y.Carts = nil }},
		{api.ErrPlace, 1, func(y *api.Yard) {
			if len(y.Carts) > 1 {
				y.Carts[1].To = 3
			}
		}},
		{api.ErrBudget, 0, func(y *api.Yard) { y.Budget = 0 }},
	}
	for i, first := range wrong {
		y := made("../.#", 0, 1, 1, 2)
		for _, w := range slices.Backward(wrong[i:]) {
			y = changed(y, w.change)
		}
		checked{"all errors from one on", y, first.e, first.place}.run(t)
	}
}

// Every call that is given a yard tells Check's error, ahead of its own errors and with nothing else.
func TestCheckAheadOfAll(t *testing.T) {
	good := made("..#", 0, 1, 1, 0)
	for _, c := range []struct {
		e      api.Errno
		change func(*api.Yard)
	}{
		{api.ErrSide, func(y *api.Yard) { y.Cols = 0 }},
		{api.ErrCells, func(y *api.Yard) { y.Cells = "....." }},
		{api.ErrCells, func(y *api.Yard) { y.Cells = ".x#" }},
		{api.ErrCarts, func(y *api.Yard) { y.Carts = nil }},
		{api.ErrPlace, func(y *api.Yard) { y.Carts[1].To = 2 }},
		{api.ErrTwice, func(y *api.Yard) { y.Carts[1].To = 1 }},
		{api.ErrBudget, func(y *api.Yard) { y.Budget = 0 }},
	} {
		y := changed(good, c.change)
		for _, n := range []int{0, -1, 2, math.MaxInt} {
			if l, e := yard.Far(y, n); l != nil || e != c.e {
				t.Errorf("P3: Far(%v, %d): %v, %d, want %d", y, n, l, e, c.e)
			}
			rules := make([]api.Rule, 41)
			if l, e := yard.Alone(y, n, rules); l != nil || e != c.e {
				t.Errorf("P3: Alone(%v, %d): %v, %d, want %d", y, n, l, e, c.e)
			}
			if l, e := yard.Layers(y, n, rules, n); l != nil || e != c.e {
				t.Errorf("P3: Layers(%v, %d): %v, %d, want %d", y, n, l, e, c.e)
			}
			if l, e := yard.Judge(y, nil, n); l != nil || e != c.e {
				t.Errorf("P3: Judge(%v, %d): %v, %d, want %d", y, n, l, e, c.e)
			}
		}
		if n, ok, e := yard.Positions(y); n != 0 || ok || e != c.e {
			t.Errorf("P3: Positions(%v): %d, %t, %d, want %d", y, n, ok, e, c.e)
		}
		if l, n, e := yard.Solve(y); l != nil || n != 0 || e != c.e {
			t.Errorf("P3: Solve(%v): %v, %d, %d, want %d", y, l, n, e, c.e)
		}
		if s, e := yard.Write(y); s != "" || e != c.e {
			t.Errorf("P3: Write(%v): %q, %d, want %d", y, s, e, c.e)
		}
	}
}
