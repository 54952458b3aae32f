package yard_test

import (
	"fmt"
	"math"
	"math/rand"
	"slices"
	"testing"

	"yard/api"
	"yard/yard"
)

func ExampleJudge() {
	pass := api.Yard{Rows: 1, Cols: 3, Cells: "...", Carts: []api.Cart{{From: 0, To: 2}, {From: 2, To: 0}}, Budget: 100}
	fmt.Println(yard.Judge(pass, [][]int{{0, 1, 2}, {2, 1, 0}}, 3))
	swap := api.Yard{Rows: 1, Cols: 3, Cells: "...", Carts: []api.Cart{{From: 0, To: 1}, {From: 1, To: 0}}, Budget: 100}
	fmt.Println(yard.Judge(swap, [][]int{{0, 1}, {1, 0}}, 3))
	// Output:
	// [{2 0 1 1}] 0
	// [{3 0 1 0}] 0
}

func swaps(cart, other, at int) api.Fault {
	return api.Fault{Level: 3, Cart: cart, Other: other, At: at}
}
func meets(cart, other, at int) api.Fault {
	return api.Fault{Level: 2, Cart: cart, Other: other, At: at}
}
func goes(cart, at int) api.Fault { return api.Fault{Level: 1, Cart: cart, Other: -1, At: at} }
func ends(cart, at int) api.Fault { return api.Fault{Level: 0, Cart: cart, Other: -1, At: at} }

// judged: on each level, Judge tells those of all faults that are of that level or of one below it.
func judged(t *testing.T, y api.Yard, plan [][]int, all ...api.Fault) {
	t.Helper()
	for level := range 4 {
		var want []api.Fault
		for _, f := range all {
			if f.Level <= level {
				want = append(want, f)
			}
		}
		if list, e := yard.Judge(y, plan, level); e != api.OK || !slices.Equal(list, want) {
			t.Errorf("P7: Judge(%v, %v, %d) = %v, %d, want %v", y, plan, level, list, e, want)
		}
	}
}

func TestJudgeGoodPlans(t *testing.T) {
	judged(t, made(".", 0, 0), [][]int{{0}})
	judged(t, made("...", 0, 2), [][]int{{0, 0, 1, 1, 2}})
	judged(t, made(".../#.#", 0, 2, 2, 0), [][]int{{0, 1, 4, 1, 2}, {2, 2, 1, 0}})
	// One goes to where the other was, in a row and all round.
	judged(t, made("...", 0, 1, 1, 2), [][]int{{0, 1}, {1, 2}})
	judged(t, made("../..", 0, 1, 1, 3, 3, 2, 2, 0), [][]int{{0, 1}, {1, 3}, {3, 2}, {2, 0}})
	// It passes its To, and waits there, but not at the end.
	judged(t, made("...", 0, 1), [][]int{{0, 1, 1, 2, 1}})
	judged(t, made("..", 0, 0), [][]int{{0, 0, 1, 0}})
}

func TestJudgeSwapsAndMeetings(t *testing.T) {
	line := made("....", 0, 1, 1, 0, 2, 3, 3, 2)
	judged(t, line, [][]int{{0, 1}, {1, 0}, {2, 3}, {3, 2}}, swaps(0, 1, 0), swaps(2, 3, 0))
	judged(t, line, [][]int{{0, 1}, {1, 2, 1, 0}, {2, 1, 2, 3}, {3, 3, 2}},
		swaps(1, 2, 0), swaps(1, 2, 1), meets(0, 1, 2), meets(0, 2, 1), meets(2, 3, 2))
	three := made("...", 0, 2, 1, 1, 2, 0)
	judged(t, three, [][]int{{0, 1, 2}, {1}, {2, 1, 0}}, meets(0, 1, 1), meets(0, 2, 1), meets(1, 2, 1))

	// Two that meet and both stay have not swapped, nor have two that meet and part.
	two := made("...", 0, 2, 2, 0)
	judged(t, two, [][]int{{0, 1, 1, 2}, {2, 1, 1, 0}}, meets(0, 1, 1), meets(0, 1, 2))
	// Where one alone comes to the other's cell, they meet.
	judged(t, two, [][]int{{0, 1, 2}, {2, 2, 1, 0}}, swaps(0, 1, 1))
	judged(t, two, [][]int{{0, 1, 2}, {2, 2, 2, 1, 0}}, meets(0, 1, 2))
}

// A cart is taken to stay where its list ends, up to the end of the longer list.
func TestJudgeBehindTheEnd(t *testing.T) {
	two := made("...", 0, 1, 2, 0)
	long := []int{2, 2, 2, 1, 0}
	judged(t, two, [][]int{{0, 1}, long}, meets(0, 1, 3))
	judged(t, made("...", 2, 0, 0, 1), [][]int{long, {0, 1}}, meets(0, 1, 3))
	judged(t, two, [][]int{{0}, long}, meets(0, 1, 4), ends(0, 0))
	judged(t, two, [][]int{{0}, {0}}, meets(0, 1, 0), ends(0, 0), ends(1, 0))
	judged(t, two, [][]int{{0, 1, 2}, {2}}, meets(0, 1, 2), ends(0, 2), ends(1, 0))
	// To stay is to go from To to To: no fault of any level by itself.
	judged(t, made("...", 0, 1, 2, 2), [][]int{{0, 1, 0, 0, 0, 1}, {2}})
}

// In lists that are judged, numbers are held against each other also where they are no cells.
func TestJudgeNoCells(t *testing.T) {
	two := made("..", 0, 1, 1, 0)
	judged(t, two, [][]int{{0, 9, 1}, {1, 9, 0}},
		meets(0, 1, 1), goes(0, 0), goes(0, 1), goes(1, 0), goes(1, 1))
	judged(t, two, [][]int{{math.MinInt, math.MaxInt}, {math.MaxInt, math.MinInt}},
		swaps(0, 1, 0), goes(0, 0), goes(1, 0), ends(0, 0), ends(0, 1), ends(1, 0), ends(1, 1))
	judged(t, two, [][]int{{-1}, {-1}}, meets(0, 1, 0), goes(0, 0), goes(1, 0), ends(0, 0), ends(1, 0))
	judged(t, two, [][]int{{0, -1}, {1, 0}}, goes(0, 0), ends(0, 1))
}

func TestJudgeSteps(t *testing.T) {
	square := made("../.#", 0, 2)
	for _, c := range []struct {
		path []int
		want []api.Fault
	}{
		{[]int{0, 1, 0, 2}, nil},
		{[]int{0, 1, 2}, []api.Fault{goes(0, 1)}},
		// To come to a wall is a fault, and to wait there; to leave it for a cell beside it is none.
		{[]int{0, 1, 3, 2}, []api.Fault{goes(0, 1)}}, {[]int{0, 1, 3, 3, 2}, []api.Fault{goes(0, 1), goes(0, 2)}},
		{[]int{0, 1, 3, 0, 2}, []api.Fault{goes(0, 1), goes(0, 2)}},
		// What is no cell is beside none.
		{[]int{0, 4, 2}, []api.Fault{goes(0, 0), goes(0, 1)}}, {[]int{0, -2, 0, 2}, []api.Fault{goes(0, 0), goes(0, 1)}},
		{[]int{0, -1, 0, 2}, []api.Fault{goes(0, 0), goes(0, 1)}}, {[]int{0, 4, 4, 2}, []api.Fault{goes(0, 0), goes(0, 1), goes(0, 2)}},
		{[]int{0, math.MaxInt, math.MinInt, 2}, []api.Fault{goes(0, 0), goes(0, 1), goes(0, 2)}},

		// The first cell: one fault, whether the step from it is wrong too or not.
		{[]int{3, 2}, []api.Fault{goes(0, 0), ends(0, 0)}}, {[]int{3, 0, 2}, []api.Fault{goes(0, 0), ends(0, 0)}},
		{[]int{-2, 0, 2}, []api.Fault{goes(0, 0), ends(0, 0)}}, {[]int{4, 2}, []api.Fault{goes(0, 0), ends(0, 0)}},
		{[]int{3, 3, 2}, []api.Fault{goes(0, 0), ends(0, 0)}}, {[]int{-1, -1, 2}, []api.Fault{goes(0, 0), goes(0, 1), ends(0, 0)}},
		{[]int{3}, []api.Fault{goes(0, 0), ends(0, 0)}}, {[]int{4}, []api.Fault{goes(0, 0), ends(0, 0)}},
		{[]int{0, 3}, []api.Fault{goes(0, 0), ends(0, 1)}},
		{[]int{1, 2}, []api.Fault{goes(0, 0), ends(0, 0)}}, {[]int{1, 0, 2}, []api.Fault{ends(0, 0)}},
	} {
		judged(t, square, [][]int{c.path}, c.want...)
	}
	// The end of a row is not beside the next one's beginning, and two rows down is not beside.
	judged(t, made("../../..", 0, 5), [][]int{{0, 1, 2, 4, 5}}, goes(0, 1))
	judged(t, made("../../..", 0, 5), [][]int{{0, 4, 5}}, goes(0, 0))
	judged(t, made("...", 0, 2), [][]int{{0, 2}}, goes(0, 0))
	judged(t, made("../..", 0, 3), [][]int{{0, 3}}, goes(0, 0))
}

func TestJudgeEnds(t *testing.T) {
	line, home := made("...", 0, 2), made("...", 0, 0)
	for _, c := range []struct {
		y    api.Yard
		path []int
		want []api.Fault
	}{
		{line, nil, []api.Fault{ends(0, 0)}}, {line, []int{}, []api.Fault{ends(0, 0)}}, {home, nil, []api.Fault{ends(0, 0)}},
		{line, []int{1, 2}, []api.Fault{ends(0, 0)}}, {line, []int{0, 1}, []api.Fault{ends(0, 1)}},
		{line, []int{0, 1, 2, 2}, []api.Fault{ends(0, 3)}}, {line, []int{0, 1, 2, 2, 2}, []api.Fault{ends(0, 4)}},
		{line, []int{0, 1, 2, 1}, []api.Fault{ends(0, 3)}}, {line, []int{0, 1, 1}, []api.Fault{ends(0, 2)}},
		{line, []int{1, 1}, []api.Fault{ends(0, 0), ends(0, 1)}}, {line, []int{2, 2}, []api.Fault{ends(0, 0), ends(0, 1)}},
		{line, []int{1, 0, 1}, []api.Fault{ends(0, 0), ends(0, 2)}},
		// One cell alone is wrong once.
		{line, []int{0}, []api.Fault{ends(0, 0)}}, {line, []int{1}, []api.Fault{ends(0, 0)}}, {line, []int{2}, []api.Fault{ends(0, 0)}},
		{home, []int{0}, nil}, {home, []int{1}, []api.Fault{ends(0, 0)}},
		{home, []int{0, 0}, []api.Fault{ends(0, 1)}}, {home, []int{1, 0}, []api.Fault{ends(0, 0)}}, {home, []int{0, 1}, []api.Fault{ends(0, 1)}},
	} {
		judged(t, c.y, [][]int{c.path}, c.want...)
	}
}

func TestJudgeEmptyLists(t *testing.T) {
	three := made("...", 0, 1, 1, 0, 2, 2)
	judged(t, three, [][]int{nil, {}, nil}, ends(0, 0), ends(1, 0), ends(2, 0))
	judged(t, three, [][]int{{0, 1}, {}, {2}}, ends(1, 0))
	judged(t, three, [][]int{{}, {1, 0}, {2}}, ends(0, 0))
	judged(t, three, [][]int{{0, 1}, {1, 0}, nil}, swaps(0, 1, 0), ends(2, 0))
	judged(t, made("...", 0, 2, 1, 0, 2, 1), [][]int{{0, 1, 2}, nil, {2, 1}}, meets(0, 2, 1), ends(1, 0))
}

// Of a plan with too few or too many lists, only that is told, on each level.
func TestJudgeNumberOfLists(t *testing.T) {
	two := made("../.#", 0, 2, 1, 0)
	for _, plan := range [][][]int{
		nil, {}, {{0, 2}}, {nil}, {{0, 2}, {1, 0}, {2}}, {{0, 2}, {1, 0}, nil}, {{9, 9}, {9, 9}, {9, 9}}, make([][]int, 1000),
	} {
		judged(t, two, plan, api.Fault{Level: 0, Cart: -1, Other: -1, At: 0})
	}
}

// wordsFault: is this a fault of the plan, by the document's words? Of a plan with as many lists as carts.
func wordsFault(y api.Yard, plan [][]int, f api.Fault) bool {
	list := plan[f.Cart]
	n := len(list)
	at := func(cells []int, t int) int { return cells[min(t, len(cells)-1)] }
	isFree := func(cell int) bool { return cell >= 0 && cell < len(y.Cells) && y.Cells[cell] == '.' }
	isCell := func(cell int) bool { return cell >= 0 && cell < len(y.Cells) }
	switch {
	case f.Level > 1:
		other := plan[f.Other]
		if n == 0 || len(other) == 0 || f.At >= max(n, len(other)) {
			return false
		}
		meet := at(list, f.At) == at(other, f.At)
		swap := at(list, f.At+1) == at(other, f.At) && at(other, f.At+1) == at(list, f.At)
		return f.Level == 2 && meet || f.Level == 3 && swap && !meet
	case f.Level == 1:
		if n > 0 && f.At == 0 && !isFree(list[0]) {
			return true
		}
		return f.At+1 < n && !(isCell(list[f.At]) && mayGo(y, list[f.At], list[f.At+1]))
	}
	from, to := y.Carts[f.Cart].From, y.Carts[f.Cart].To
	if f.At == 0 && (n == 0 || list[0] != from) {
		return true
	}
	return n > 0 && f.At == n-1 && (list[n-1] != to || n > 1 && list[n-2] == to)
}

// wordsFaults: all faults, in the order of the words.
func wordsFaults(y api.Yard, plan [][]int, level int) []api.Fault {
	longest := 1
	for _, list := range plan {
		longest = max(longest, len(list))
	}
	var faults []api.Fault
	for ; level >= 0; level-- {
		for cart := range plan {
			others := []int{-1}
			if level > 1 {
				others = nil
				for other := cart + 1; other < len(plan); other++ {
					others = append(others, other)
				}
			}
			for _, other := range others {
				for at := range longest + 1 {
					if f := (api.Fault{Level: level, Cart: cart, Other: other, At: at}); wordsFault(y, plan, f) {
						faults = append(faults, f)
					}
				}
			}
		}
	}
	return faults
}

// someCarts: carts on free cells of a yard, by chance, as many as there is room for.
func someCarts(chance *rand.Rand, y api.Yard, n int) []api.Cart {
	var froms []int
	for cell := range len(y.Cells) {
		if y.Cells[cell] == '.' {
			froms = append(froms, cell)
		}
	}
	tos := slices.Clone(froms)
	chance.Shuffle(len(froms), func(i, j int) { froms[i], froms[j] = froms[j], froms[i] })
	chance.Shuffle(len(tos), func(i, j int) { tos[i], tos[j] = tos[j], tos[i] })
	var carts []api.Cart
	for i := range min(n, len(froms)) {
		carts = append(carts, api.Cart{From: froms[i], To: tos[i]})
	}
	return carts
}

// someList: of a cart's cells: it begins at From, mostly, and goes as it may, mostly.
func someList(chance *rand.Rand, y api.Yard, c api.Cart) []int {
	var list []int
	cell := c.From
	for range chance.Intn(7) {
		if chance.Intn(8) == 0 {
			cell = chance.Intn(len(y.Cells)+4) - 2
		}
		list = append(list, cell)
		if near := cell + []int{0, 1, -1, y.Cols, -y.Cols}[chance.Intn(5)]; chance.Intn(8) == 0 || mayGo(y, cell, near) {
			cell = near
		}
	}
	if chance.Intn(2) == 0 {
		list = append(list, c.To)
	}
	return list
}

func TestJudgeByTheWords(t *testing.T) {
	chance := rand.New(rand.NewSource(9))
	ofLevel := [4]int{}
	for range 3000 {
		y := someYard(chance)
		y.Carts = someCarts(chance, y, 1+chance.Intn(api.MaxCarts))
		var plan [][]int
		for _, c := range y.Carts {
			plan = append(plan, someList(chance, y, c))
		}
		for level := range 4 {
			want := wordsFaults(y, plan, level)
			if list, e := yard.Judge(y, plan, level); e != api.OK || !slices.Equal(list, want) {
				t.Fatalf("P7: Judge(%v, %v, %d) = %v, %d, want %v", y, plan, level, list, e, want)
			}
		}
		for _, f := range wordsFaults(y, plan, 3) {
			ofLevel[f.Level]++
		}
	}
	if slices.Min(ofLevel[:]) < 100 {
		t.Errorf("faults of the levels 0 to 3: %v: chance tests too little", ofLevel)
	}
}

func TestJudgeRefuses(t *testing.T) {
	y := made("..", 0, 1)
	for _, level := range []int{-1, 4, math.MinInt, math.MaxInt, 1 << 32} {
		for _, plan := range [][][]int{nil, {{0, 1}}, {{9}}, {{0}, {0}}} {
			if list, e := yard.Judge(y, plan, level); list != nil || e != api.ErrArg {
				t.Errorf("P7: Judge(%v, %v, %d) = %v, %d, want %d", y, plan, level, list, e, api.ErrArg)
			}
		}
	}
}

// Long lists: the call ends, and soon.
func TestJudgeLongLists(t *testing.T) {
	const n = 100000
	y := made("..", 0, 1, 1, 0)
	faults, e := yard.Judge(y, [][]int{make([]int, n), slices.Repeat([]int{1, 0}, n)}, 3)
	// Every second instant they meet; behind the shorter list's end, too.
	if e != api.OK || len(faults) != n+1 || faults[n-1] != meets(0, 1, 2*n-1) || faults[n] != ends(0, n-1) {
		t.Errorf("P7: of long lists Judge tells %d faults, %d", len(faults), e)
	}
}
