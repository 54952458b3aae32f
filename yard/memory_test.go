package yard_test

import (
	"slices"
	"strconv"
	"testing"
	"unsafe"

	"yard/api"
	"yard/yard"
)

// What is handed in stays as it is, its spare room too.
func TestNothingHandedInIsWritten(t *testing.T) {
	room := []api.Cart{{From: 0, To: 2}, {From: 2, To: 0}, {From: 7, To: 8}, {From: -9, To: 9}}
	before := slices.Clone(room)
	y := made("...")
	y.Carts = room[:2]
	yard.Check(y)
	yard.Far(y, 1)
	yard.Far(y, 5)
	rules := []api.Rule{way(0, 1, 0), be(1, 3), off(2, 5), be(0, 0), way(2, 2, -9), off(77, 77)}
	wereRules := slices.Clone(rules)
	yard.Alone(y, 0, rules[:3])
	yard.Layers(y, 0, rules[:3], 6)
	plan := [][]int{{0, 1, 2, 77, 78}, {2, 1, 0, 79}, {80}}
	werePlan := [][]int{{0, 1, 2, 77, 78}, {2, 1, 0, 79}, {80}}
	yard.Judge(y, [][]int{plan[0][:3], plan[1][:1]}, 3)
	yard.Judge(y, plan[:2], 3)
	yard.Judge(y, plan[:1], 3)
	yard.Positions(y)
	yard.Solve(y)
	y.Rows, y.Cells = 2, "...#.#"
	yard.Solve(y)
	y.Budget = 11
	yard.Solve(y)
	yard.Write(y)
	yard.Write(changed(y, func(y *api.Yard) { y.Budget = 0 }))
	if !slices.Equal(room, before) {
		t.Errorf("P2: the carts are %v, they were %v", room, before)
	}
	if !slices.Equal(rules, wereRules) {
		t.Errorf("P2: the rules are %v, they were %v", rules, wereRules)
	}
	if !slices.EqualFunc(plan, werePlan, slices.Equal) {
		t.Errorf("P2: the plan is %v, it was %v", plan, werePlan)
	}
}

// The caller may write into an answer and its spare room.
func TestAnswersAreNew(t *testing.T) {
	y := made("../.#", 0, 1)
	first, _ := yard.Far(y, 0)
	second, _ := yard.Far(y, 0)
	whole := first[:cap(first)]
	for i := range whole {
		whole[i] = 77
	}
	third, _ := yard.Far(y, 0)
	want := []int{0, 1, 1, -1}
	if !slices.Equal(second, want) || !slices.Equal(third, want) {
		t.Errorf("P2: Far tells %v and %v, want %v: answers share room", second, third, want)
	}
}

// fill writes into a list and into its spare room.
func fill(list []int) {
	list = list[:cap(list)]
	for i := range list {
		list[i] = 77
	}
}

func TestPathsAreNew(t *testing.T) {
	y := made("...", 0, 2)
	rules := []api.Rule{be(1, 4)}
	first, _ := yard.Alone(y, 0, rules)
	second, _ := yard.Alone(y, 0, rules)
	was := slices.Clone(second)
	fill(first)
	if third, _ := yard.Alone(y, 0, rules); !slices.Equal(second, was) || !slices.Equal(third, was) {
		t.Errorf("P2: Alone tells %v and %v, want %v: answers share room", second, third, was)
	}
}

// The lists of one answer share no room, nor do those of two; nor do the lists of lists.
func TestLayersAreNew(t *testing.T) {
	y := made("../..", 0, 3)
	want := [][]int{{0}, {0, 1, 2}, {0, 1, 2, 3}, {1, 2}, {3}}
	for at := range want {
		first, _ := yard.Layers(y, 0, nil, 4)
		second, _ := yard.Layers(y, 0, nil, 4)
		fill(first[at])
		for other := range want {
			if other != at && !slices.Equal(first[other], want[other]) {
				t.Errorf("P2: the layer %d is %v, once the layer %d is written into", other, first[other], at)
			}
		}
		whole := first[:cap(first)]
		for i := range whole {
			whole[i] = nil
		}
		third, _ := yard.Layers(y, 0, nil, 4)
		if !slices.EqualFunc(second, want, slices.Equal) || !slices.EqualFunc(third, want, slices.Equal) {
			t.Errorf("P2: Layers tells %v and %v, want %v: answers share room", second, third, want)
		}
	}
}

func TestFaultsAreNew(t *testing.T) {
	y := made("...", 0, 2, 2, 0)
	for _, plan := range [][][]int{{{0, 1, 2}, {2, 1, 0}}, {{1}, {9, 1, 1}}, nil} {
		first, _ := yard.Judge(y, plan, 3)
		second, _ := yard.Judge(y, plan, 3)
		was := slices.Clone(second)
		whole := first[:cap(first)]
		for i := range whole {
			whole[i] = api.Fault{Level: 77}
		}
		if third, _ := yard.Judge(y, plan, 3); !slices.Equal(second, was) || !slices.Equal(third, was) {
			t.Errorf("P2: Judge tells %v and %v, want %v: answers share room", second, third, was)
		}
	}
}

// The paths of one plan share no room, nor do those of two; nor do the plans.
func TestPlansAreNew(t *testing.T) {
	y := made(".../#.#/#.#", 0, 2, 2, 0, 4, 4)
	want, _, _ := yard.Solve(y)
	for cart := range want {
		first, _, _ := yard.Solve(y)
		second, _, _ := yard.Solve(y)
		fill(first[cart])
		for other := range want {
			if other != cart && !slices.Equal(first[other], want[other]) {
				t.Errorf("P2: the path %d is %v, once the path %d is written into", other, first[other], cart)
			}
		}
		whole := first[:cap(first)]
		for i := range whole {
			whole[i] = nil
		}
		third, _, _ := yard.Solve(y)
		if !slices.EqualFunc(second, want, slices.Equal) || !slices.EqualFunc(third, want, slices.Equal) {
			t.Errorf("P2: Solve tells %v and %v, want %v: answers share room", second, third, want)
		}
	}
}

// The carts that Read tells are new, with their spare room.
func TestReadYardsAreNew(t *testing.T) {
	for _, carts := range []string{"0 0 0 2\n", "0 0 0 2\n0 2 0 0\n0 1 0 1\n"} {
		s := "yard 100\n...\n" + carts
		first, _, _ := yard.Read(s)
		second, _, _ := yard.Read(s)
		was := slices.Clone(second.Carts)
		whole := first.Carts[:cap(first.Carts)]
		for i := range whole {
			whole[i] = api.Cart{From: 77, To: 77}
		}
		if third, _, _ := yard.Read(s); !slices.Equal(second.Carts, was) || !slices.Equal(third.Carts, was) {
			t.Errorf("P2: Read tells %v and %v, want %v: answers share room", second.Carts, third.Carts, was)
		}
	}
}

// lent: a string over bytes that are written into later, so that what still hangs on it is seen.
func lent(bytes []byte) string { return unsafe.String(&bytes[0], len(bytes)) }

func TestNoStringIsKept(t *testing.T) {
	for _, rows := range []string{"...", ".../#.#"} {
		want := made(rows, 0, 2)
		s, _ := yard.Write(want)
		bytes := []byte(s)
		y, _, _ := yard.Read(lent(bytes))
		fillBytes(bytes)
		if !sameYard(y, want) {
			t.Errorf("P2: the yard that was read is %v, once the text is written into; it was %v", y, want)
		}
		bytes = []byte(want.Cells)
		written, _ := yard.Write(changed(want, func(y *api.Yard) { y.Cells = lent(bytes) }))
		fillBytes(bytes)
		if written != s {
			t.Errorf("P2: the text that was written is %q, once the cells are written into; it was %q", written, s)
		}
	}
	session := yard.Open()
	bytes := []byte("yard 100\n...\n0 0 0 2\n")
	for _, c := range []struct{ from, to, answer string }{{"0", "2", "rr"}, {"2", "0", "ll"}, {"0", "1", "r"}, {"0", "2", "rr"}, {"1", "0", "l"}} {
		copy(bytes[13:], "0 "+c.from+" 0 "+c.to)
		if answer := session.Ask(lent(bytes)); answer != "plan "+strconv.Itoa(len(c.answer))+"\n"+c.answer+"\n" {
			t.Errorf("P2: Ask(%q) = %q, want %q", bytes, answer, c.answer)
		}
	}
}

func fillBytes(bytes []byte) {
	for i := range bytes {
		bytes[i] = 'x'
	}
}

// The same was asked, so the same is told, however maps are gone through.
func TestAnswersAreTheSame(t *testing.T) {
	y := made("..../..../....", 0, 11)
	rules := []api.Rule{off(5, 2), off(6, 3), be(9, 6)}
	path, _ := yard.Alone(y, 0, rules)
	layers, _ := yard.Layers(y, 0, rules, 12)
	// Many plans cost the same here.
	many := wide("..../..../..##", 0, 5, 5, 0, 2, 8)
	plan, _, _ := yard.Solve(many)
	for range 50 {
		if p, _, _ := yard.Solve(many); !slices.EqualFunc(p, plan, slices.Equal) {
			t.Fatalf("P9: Solve tells %v, it told %v", p, plan)
		}
		if p, _ := yard.Alone(y, 0, rules); !slices.Equal(p, path) {
			t.Fatalf("P5: Alone tells %v, it told %v", p, path)
		}
		if l, _ := yard.Layers(y, 0, rules, 12); !slices.EqualFunc(l, layers, slices.Equal) {
			t.Fatalf("P6: Layers tells %v, it told %v", l, layers)
		}
	}
}

// An answer hangs on what was given, not on what was given ahead of it or is changed behind it.
func TestNothingHandedInIsKept(t *testing.T) {
	y := made("...", 0, 2)
	if e, _ := yard.Check(y); e != api.OK {
		t.Errorf("P3: Check(%v): %d", y, e)
	}
	y.Carts[0].To = 3
	if e, place := yard.Check(y); e != api.ErrPlace || place != 0 {
		t.Errorf("P2: Check(%v): %d, %d, once the cart was changed", y, e, place)
	}
	y.Carts[0].To = 1
	if e, _ := yard.Check(y); e != api.OK {
		t.Errorf("P2: Check(%v): %d, once the cart was changed back", y, e)
	}
	rules := []api.Rule{be(2, 4)}
	for at := range 4 {
		rules[0].At = at + 4
		path, _ := yard.Alone(y, 0, rules)
		layers, _ := yard.Layers(y, 0, rules, at+5)
		if len(path) != at+6 || path[at+4] != 2 || len(layers) != at+6 || !slices.Equal(layers[at+4], []int{2}) {
			t.Errorf("P2: %v and %v, once the rule is %v", path, layers, rules[0])
		}
	}
	apart, plan := made("..#.", 0, 1), [][]int{{0, 1}}
	for _, last := range []int{1, 3, 1, 0, 1} {
		plan[0][1] = last
		if faults, _ := yard.Judge(apart, plan, 0); (len(faults) == 0) != (last == 1) {
			t.Errorf("P2: Judge tells %v, once the plan is %v", faults, plan)
		}
	}
	for _, to := range []int{1, 3, 1} {
		apart.Carts[0].To = to
		if n, arrives, _ := yard.Positions(apart); n != 2 || arrives != (to == 1) {
			t.Errorf("P2: Positions tells %d, %t, once the cart is %v", n, arrives, apart.Carts[0])
		}
		if path, _, _ := yard.Solve(apart); (path != nil) != (to == 1) {
			t.Errorf("P2: Solve tells %v, once the cart is %v", path, apart.Carts[0])
		}
	}
}
