package yard_test

import (
	"math"
	"math/rand"

	"yard/api"
)

func off(cell, at int) api.Rule { return api.Rule{Kind: api.KeepOff, Cell: cell, At: at} }
func way(cell, next, at int) api.Rule {
	return api.Rule{Kind: api.NoWay, Cell: cell, Next: next, At: at}
}
func be(cell, at int) api.Rule { return api.Rule{Kind: api.BeThere, Cell: cell, At: at} }

// long: an instant behind which neither a rule nor the least path of a small yard goes.
const long = 140

// mayGo: from a free cell to itself or to a free cell beside it in its row or column.
func mayGo(y api.Yard, a, b int) bool {
	if b < 0 || b >= len(y.Cells) || y.Cells[b] != '.' {
		return false
	}
	rows, cols := a/y.Cols-b/y.Cols, a%y.Cols-b%y.Cols
	return rows*rows+cols*cols <= 1
}

// lawful: does no rule forbid to be on a cell at an instant and on another at the next?
func lawful(rules []api.Rule, here, there, at int) bool {
	for _, r := range rules {
		if r.At != at {
			continue
		}
		switch {
		case r.Kind == api.KeepOff && here == r.Cell:
			return false
		case r.Kind == api.NoWay && here == r.Cell && there == r.Next:
			return false
		case r.Kind == api.BeThere && here != r.Cell:
			return false
		}
	}
	return true
}

// isPath: does a list begin and end as a path of a cart, and go as it may?
func isPath(y api.Yard, c api.Cart, path []int) bool {
	n := len(path)
	if n == 0 || path[0] != c.From || path[n-1] != c.To || n > 1 && path[n-2] == c.To {
		return false
	}
	for at := range n - 1 {
		if !mayGo(y, path[at], path[at+1]) {
			return false
		}
	}
	return true
}

func keeps(rules []api.Rule, path []int) bool {
	for at := range long {
		if !lawful(rules, path[min(at, len(path)-1)], path[min(at+1, len(path)-1)], at) {
			return false
		}
	}
	return true
}

// costs: of each cost up to a greatest: is there a path of that cost that keeps the rules?
// The cells to which the cart can have come are worked out instant by instant.
func costs(y api.Yard, c api.Cart, rules []api.Rule, greatest int) []bool {
	stays := make([]bool, long+1) // from an instant on
	stays[long] = true
	for at := long - 1; at >= 0; at-- {
		stays[at] = stays[at+1] && lawful(rules, c.To, c.To, at)
	}
	there := make([]bool, greatest+1)
	there[0] = c.From == c.To && stays[0]
	can := make([]bool, len(y.Cells))
	can[c.From] = true
	for at := range greatest {
		after := make([]bool, len(y.Cells))
		for a := range can {
			for b := range after {
				if can[a] && mayGo(y, a, b) && lawful(rules, a, b, at) {
					after[b] = true
					there[at+1] = there[at+1] || b == c.To && a != c.To && stays[at+1]
				}
			}
		}
		can = after
	}
	return there
}

// someRules: rules for a yard, by chance, with instants up to a last one.
func someRules(chance *rand.Rand, y api.Yard, n, last int) []api.Rule {
	var rules []api.Rule
	for range n {
		cell := chance.Intn(len(y.Cells))
		near := []int{cell, cell - 1, cell + 1, cell - y.Cols, cell + y.Cols}[chance.Intn(5)]
		r := api.Rule{Kind: chance.Intn(2), Cell: cell, Next: near, At: chance.Intn(last + 1)}
		if chance.Intn(6) == 0 {
			r.Kind = api.BeThere
		}
		rules = append(rules, r)
	}
	return rules
}

// someYard: a small yard with one cart, by chance.
func someYard(chance *rand.Rand) api.Yard {
	shapes := []string{".../...", "../..", "....", ".../.#.", "..#/...", "./././.", "#../..#", ".#./...", "...", "..", "../../..", ".../.../...", "."}
	y := made(shapes[chance.Intn(len(shapes))])
	var free []int
	for cell := range len(y.Cells) {
		if y.Cells[cell] == '.' {
			free = append(free, cell)
		}
	}
	y.Carts = []api.Cart{{From: free[chance.Intn(len(free))], To: free[chance.Intn(len(free))]}}
	return y
}

// withNoRule: lists with one that is no rule in a yard of three cells, alone, last and first.
func withNoRule() [][]api.Rule {
	var list []api.Rule
	for _, n := range []int{-1, 3, math.MinInt, math.MaxInt, 1 << 32} {
		list = append(list, api.Rule{Kind: n}, off(n, 0), way(n, 0, 0), way(n, n, 0), be(n, 0))
	}
	for _, at := range []int{-1, 61, math.MinInt, math.MaxInt, 1 << 32} {
		list = append(list, off(1, at), way(1, 0, at), be(1, at))
	}
	var lists [][]api.Rule
	for _, r := range list {
		lists = append(lists, []api.Rule{r}, []api.Rule{off(0, 9), r}, []api.Rule{r, off(0, 9)})
	}
	return lists
}
