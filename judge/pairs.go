package judge

import "yard/api"

// pairFaults lists the faults of one level that two carts have with each other.
func pairFaults(plan [][]int, level int, wrong func(a, b []int, at int) bool) []api.Fault {
	var list []api.Fault
	for cart := range plan {
		for other := cart + 1; other < len(plan); other++ {
			for at := range instants(plan[cart], plan[other]) {
				if wrong(plan[cart], plan[other], at) {
					list = append(list, api.Fault{Level: level, Cart: cart, Other: other, At: at})
				}
			}
		}
	}
	return list
}

// instants tells how many are to be looked at. Where a list is empty, its cart is nowhere: then it is none.
func instants(a, b []int) int {
	if len(a) == 0 || len(b) == 0 {
		return 0
	}
	return max(len(a), len(b))
}

func meet(a, b []int, at int) bool { return cellAt(a, at) == cellAt(b, at) }

// swap: two that meet and stay have changed places by their numbers alone.
func swap(a, b []int, at int) bool {
	return cellAt(a, at+1) == cellAt(b, at) && cellAt(b, at+1) == cellAt(a, at) && !meet(a, b, at)
}

// cellAt: a cart stays where its list ends.
func cellAt(list []int, at int) int { return list[min(at, len(list)-1)] }
