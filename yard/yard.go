// Package yard: carts that cross a yard without meeting, at the least cost there is: see DOC.md.
package yard

import (
	"yard/api"
	"yard/grid"
	"yard/joint"
	"yard/judge"
	"yard/lone"
	"yard/text"
)

// Session answers requests.
type Session struct{}

// Check tells what is wrong with a yard (P3).
func Check(y api.Yard) (api.Errno, int) { return grid.Check(y) }

// Far tells how far it is from each cell to one (P4).
func Far(y api.Yard, cell int) ([]int, api.Errno) {
	if e := fault(y); e != api.OK {
		return nil, e
	}
	if !grid.Free(y, cell) {
		return nil, api.ErrArg
	}
	return grid.Far(y, cell), api.OK
}

// Alone finds a path of one cart under rules (P5).
func Alone(y api.Yard, cart int, rules []api.Rule) ([]int, api.Errno) {
	if e := loneFault(y, cart, rules, 0); e != api.OK {
		return nil, e
	}
	path := lone.Path(y, y.Carts[cart], rules)
	if path == nil {
		return nil, api.ErrNone
	}
	return path, api.OK
}

// Layers tells where one cart is in all its paths of one cost (P6).
func Layers(y api.Yard, cart int, rules []api.Rule, cost int) ([][]int, api.Errno) {
	if e := loneFault(y, cart, rules, cost); e != api.OK {
		return nil, e
	}
	layers := lone.Layers(y, y.Carts[cart], rules, cost)
	if layers == nil {
		return nil, api.ErrNone
	}
	return layers, api.OK
}

// Judge tells the faults of a plan (P7).
func Judge(y api.Yard, plan [][]int, level int) ([]api.Fault, api.Errno) {
	if e := fault(y); e != api.OK {
		return nil, e
	}
	if level < judge.Ends || level > judge.Swaps {
		return nil, api.ErrArg
	}
	return judge.Faults(y, plan, level), api.OK
}

// Positions counts the positions of a yard (P8).
func Positions(y api.Yard) (int, bool, api.Errno) {
	if e := fault(y); e != api.OK {
		return 0, false, e
	}
	n, arrives := joint.Count(y)
	if n > y.Budget {
		return 0, false, api.ErrMany
	}
	return n, arrives, api.OK
}

// Solve finds a good plan of the least cost, and that cost (P9).
func Solve(y api.Yard) ([][]int, int, api.Errno) {
	_, arrives, e := Positions(y)
	if e != api.OK {
		return nil, 0, e
	}
	// The positions of a good plan are the yard's, and from one to another there is always a plan.
	if !arrives {
		return nil, 0, api.ErrNone
	}
	plan, cost := joint.Plan(y)
	return plan, cost, api.OK
}

// Write writes a yard as a text (P10).
func Write(y api.Yard) (string, api.Errno) {
	if e := fault(y); e != api.OK {
		return "", e
	}
	return text.Write(y), api.OK
}

// Read reads the text of a yard (P10).
func Read(s string) (api.Yard, api.Errno, int) {
	y, place, ok := text.Read(s)
	if !ok {
		return api.Yard{}, api.ErrText, place
	}
	if e, number := grid.Check(y); e != api.OK {
		return api.Yard{}, e, number
	}
	return y, api.OK, 0
}

// Open opens a session (P11). There is nothing that it must keep: each answer hangs on its request alone.
func Open() *Session { return &Session{} }

// Ask answers a request (P11).
func (s *Session) Ask(request string) string {
	y, e, place := Read(request)
	if e != api.OK {
		return text.Error(e, place)
	}
	plan, cost, e := Solve(y)
	switch e {
	case api.ErrMany:
		return text.Many
	case api.ErrNone:
		return text.None
	}
	return text.Plan(y, plan, cost)
}

// fault: Check's error without its number, as the calls that are given a yard tell it.
func fault(y api.Yard) api.Errno {
	e, _ := grid.Check(y)
	return e
}

// loneFault: what is wrong with what the calls for one cart are given. A cost of 0 is never wrong.
func loneFault(y api.Yard, cart int, rules []api.Rule, cost int) api.Errno {
	e := fault(y)
	switch {
	case e != api.OK:
		return e
	case cart < 0 || cart >= len(y.Carts) || cost < 0 || cost > api.MaxTime:
		return api.ErrArg
	case !lone.Good(y, rules):
		return api.ErrRule
	}
	return api.OK
}
