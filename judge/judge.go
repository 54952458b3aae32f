// Package judge: what is wrong with a plan.
package judge

import "yard/api"

// The levels of faults. Each takes in all below it.
const (
	Ends  = 0 // where a list begins and ends
	Steps = 1 // how it goes on
	Meets = 2
	Swaps = 3
)

// nobody stands for the cart that a fault does not have.
const nobody = -1

// Faults lists the faults of a plan for a good yard, from those of a level down to those of the lowest.
func Faults(y api.Yard, plan [][]int, level int) []api.Fault {
	if len(plan) != len(y.Carts) {
		return []api.Fault{{Level: Ends, Cart: nobody, Other: nobody}}
	}
	var list []api.Fault
	switch level {
	case Swaps:
		list = append(list, pairFaults(plan, Swaps, swap)...)
		fallthrough
	case Meets:
		list = append(list, pairFaults(plan, Meets, meet)...)
		fallthrough
	case Steps:
		list = append(list, stepFaults(y, plan)...)
		fallthrough
	case Ends:
		list = append(list, endFaults(y, plan)...)
	}
	return list
}
