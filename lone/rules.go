package lone

import "yard/api"

// spot: a cell at an instant.
type spot struct{ cell, at int }

// step: from a cell, where the cart is at an instant, to the one where it is at the next.
type step struct{ from, to, at int }

// bans: what rules forbid.
type bans struct {
	spots map[spot]struct{}
	steps map[step]struct{}
}

// Good tells whether a list of rules is one for a good yard: not too many, and each of them a rule.
func Good(y api.Yard, rules []api.Rule) bool {
	if len(rules) > api.MaxRules {
		return false
	}
	for _, r := range rules {
		if !isRule(y, r) {
			return false
		}
	}
	return true
}

func isRule(y api.Yard, r api.Rule) bool {
	switch r.Kind {
	case api.KeepOff, api.NoWay, api.BeThere:
		return 0 <= r.Cell && r.Cell < len(y.Cells) && 0 <= r.At && r.At <= api.MaxTime
	}
	return false
}

func bansOf(y api.Yard, rules []api.Rule) bans {
	b := bans{spots: map[spot]struct{}{}, steps: map[step]struct{}{}}
	for _, r := range rules {
		switch r.Kind {
		case api.KeepOff:
			b.banSpot(spot{r.Cell, r.At})
		case api.NoWay:
			b.banStep(step{r.Cell, r.Next, r.At})
		case api.BeThere:
			b.banOthers(len(y.Cells), spot{r.Cell, r.At})
		}
	}
	return b
}

func (b bans) banSpot(s spot) { b.spots[s] = struct{}{} }

func (b bans) banStep(s step) { b.steps[s] = struct{}{} }

// banOthers: to be on one cell is to keep off all others, so that two such rules of one instant leave none.
func (b bans) banOthers(cells int, only spot) {
	for cell := range cells {
		if cell != only.cell {
			b.banSpot(spot{cell, only.at})
		}
	}
}

func (b bans) allowSpot(s spot) bool {
	_, banned := b.spots[s]
	return !banned
}

// allowStep: a step is forbidden where it is itself, and where the cell is that it leads to.
func (b bans) allowStep(s step) bool {
	_, banned := b.steps[s]
	return !banned && b.allowSpot(spot{s.to, s.at + 1})
}

// settledAt tells the first instant from which staying on a cell for ever keeps the rules.
func settledAt(cell int, rules []api.Rule) int {
	settled := 0
	for _, r := range rules {
		if brokenByStaying(cell, r) {
			settled = max(settled, r.At+1)
		}
	}
	return settled
}

func brokenByStaying(cell int, r api.Rule) bool {
	switch r.Kind {
	case api.KeepOff:
		return r.Cell == cell
	case api.NoWay:
		return r.Cell == cell && r.Next == cell
	default:
		return r.Cell != cell
	}
}
