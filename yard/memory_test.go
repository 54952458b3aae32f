package yard_test

import (
	"slices"
	"testing"

	"yard/api"
	"yard/yard"
)

// What is handed in stays as it is, its spare room too.
func TestNothingHandedInIsWritten(t *testing.T) {
	room := []api.Cart{{From: 0, To: 2}, {From: 2, To: 0}, {From: 7, To: 8}, {From: -9, To: 9}}
	before := slices.Clone(room)
	y := made("...")
	y.Carts = room[:2]
	yard.Check(y)
	yard.Far(y, 1)
	yard.Far(y, 5)
	if !slices.Equal(room, before) {
		t.Errorf("P2: the carts are %v, they were %v", room, before)
	}
}

// The caller may write into an answer and its spare room.
func TestAnswersAreNew(t *testing.T) {
	y := made("../.#", 0, 1)
	first, _ := yard.Far(y, 0)
	second, _ := yard.Far(y, 0)
	whole := first[:cap(first)]
	for i := range whole {
		whole[i] = 77
	}
	third, _ := yard.Far(y, 0)
	want := []int{0, 1, 1, -1}
	if !slices.Equal(second, want) || !slices.Equal(third, want) {
		t.Errorf("P2: Far tells %v and %v, want %v: answers share room", second, third, want)
	}
}

// An answer hangs on what was given, not on what was given ahead of it or is changed behind it.
func TestNothingHandedInIsKept(t *testing.T) {
	y := made("...", 0, 2)
	if e, _ := yard.Check(y); e != api.OK {
		t.Errorf("P3: Check(%v): %d", y, e)
	}
	y.Carts[0].To = 3
	if e, place := yard.Check(y); e != api.ErrPlace || place != 0 {
		t.Errorf("P2: Check(%v): %d, %d, once the cart was changed", y, e, place)
	}
	y.Carts[0].To = 1
	if e, _ := yard.Check(y); e != api.OK {
		t.Errorf("P2: Check(%v): %d, once the cart was changed back", y, e)
	}
}
