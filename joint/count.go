package joint

import "yard/api"

// Count tells how many positions a good yard has, and whether that of all Tos is among them.
// It gives up once there are more than the budget: then the number tells no more than that.
func Count(y api.Yard) (int, bool) {
	seen := reached(y)
	_, arrives := seen[goals(y)]
	return len(seen), arrives
}

// reached looks at positions until there is no new one, or there are too many.
func reached(y api.Yard) map[position]struct{} {
	g, start := newGround(y), starts(y)
	seen := map[position]struct{}{start: {}}
	list := []position{start}
	for next := 0; next < len(list) && len(list) <= y.Budget; next++ {
		for _, there := range g.nexts(list[next]) {
			if _, known := seen[there]; !known {
				seen[there] = struct{}{}
				list = append(list, there)
			}
		}
	}
	return seen
}
