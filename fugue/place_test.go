package fugue_test

import (
	"math"
	"testing"

	"osier/api"
	"osier/fugue"
)

// checkPlace looks at Place of an index that there is.
func checkPlace(t *testing.T, x *fugue.Text, index int, at api.Dot, side int) {
	t.Helper()
	if gotAt, gotSide, e := x.Place(index); gotAt != at || gotSide != side || e != api.OK {
		t.Errorf("Place(%d) of %q is %v, %d, %d, not %v, %d", index, x, gotAt, gotSide, e, at, side)
	}
}

// checkNoPlace looks at Place of indexes below 0 and above Len.
func checkNoPlace(t *testing.T, x *fugue.Text) {
	t.Helper()
	for _, index := range []int{math.MinInt, -1 << 32, -2, -1, x.Len() + 1, x.Len() + 2, 1 << 32, 1<<32 + 1, math.MaxInt} {
		if at, side, e := x.Place(index); at != (api.Dot{}) || side != 0 || e != api.ErrIndex {
			t.Errorf("Place(%d) of %q is %v, %d, %d", index, x, at, side, e)
		}
	}
}

// P9.3: of nothing there is the index 0 alone; of a row that was written on and on each one stands right of the one ahead.
func TestPlaceOfRow(t *testing.T) {
	x, s := of(t)
	checkPlace(t, x, 0, api.Dot{}, api.Right)
	checkNoPlace(t, x)
	for i := range 5 {
		at, side, _ := x.Place(i)
		insert(t, x, s, put{id: dot(1, i+1), at: at, side: side, char: 'a' + i})
		checkPlace(t, x, 0, dot(1, 1), api.Left)
		checkPlace(t, x, i+1, dot(1, i+1), api.Right)
		for j := range i {
			checkPlace(t, x, j+1, dot(1, j+2), api.Left)
		}
		checkNoPlace(t, x)
	}
	check(t, "a row", x, s)
}

// P9.3: at 0: the first of all, which lies deep at left sides, seen or not.
func TestPlaceAtBeginning(t *testing.T) {
	x, s := of(t, first(3, 1, 'c'))
	checkPlace(t, x, 0, dot(3, 1), api.Left)
	insert(t, x, s, first(2, 1, 'b'))
	checkPlace(t, x, 0, dot(2, 1), api.Left)
	insert(t, x, s, left(9, 1, 2, 1, 'y'))
	checkPlace(t, x, 0, dot(9, 1), api.Left)
	insert(t, x, s, left(9, 2, 9, 1, 'x'))
	checkPlace(t, x, 0, dot(9, 2), api.Left)
	// Right of the first one nothing comes ahead of it.
	insert(t, x, s, right(9, 3, 9, 2, 'z'))
	checkPlace(t, x, 0, dot(9, 2), api.Left)
	for _, d := range row(9, 2, 9, 1, 9, 3, 2, 1, 3, 1) {
		remove(t, x, s, d)
		checkPlace(t, x, 0, dot(9, 2), api.Left)
		checkNoPlace(t, x)
	}
	check(t, "the beginning", x, s)
}

// P9.3: of one with nothing at its right side it is that one, Right, whatever lies at its left side or behind it.
func TestPlaceRight(t *testing.T) {
	x, s := of(t, first(1, 1, 'b'), left(1, 2, 1, 1, 'a'), first(2, 1, 'c'))
	checkPlace(t, x, 1, dot(1, 2), api.Right)
	checkPlace(t, x, 2, dot(1, 1), api.Right)
	checkPlace(t, x, 3, dot(2, 1), api.Right)
	checkNoPlace(t, x)
	// What isn't seen doesn't count as the one ahead.
	remove(t, x, s, dot(1, 1))
	checkPlace(t, x, 1, dot(1, 2), api.Right)
	checkPlace(t, x, 2, dot(2, 1), api.Right)
	remove(t, x, s, dot(2, 1))
	checkPlace(t, x, 1, dot(1, 2), api.Right)
	checkNoPlace(t, x)
	check(t, "right", x, s)
}

// P9.3: of one with characters at its right side it is the next one in order, Left, seen or not, also where that lies deeper at left sides.
func TestPlaceLeft(t *testing.T) {
	x, s := of(t, first(1, 1, 'a'), right(5, 1, 1, 1, 'f'))
	checkPlace(t, x, 1, dot(5, 1), api.Left)
	insert(t, x, s, right(4, 1, 1, 1, 'e'))
	checkPlace(t, x, 1, dot(4, 1), api.Left)
	insert(t, x, s, left(7, 1, 4, 1, 'd'))
	checkPlace(t, x, 1, dot(7, 1), api.Left)
	insert(t, x, s, left(6, 1, 4, 1, 'c'))
	checkPlace(t, x, 1, dot(6, 1), api.Left)
	insert(t, x, s, left(9, 1, 6, 1, 'b'))
	checkPlace(t, x, 1, dot(9, 1), api.Left)
	checkPlace(t, x, 2, dot(9, 1), api.Right)
	checkPlace(t, x, 3, dot(6, 1), api.Right)
	checkNoPlace(t, x)
	// The next one in order counts though it isn't seen.
	for _, d := range row(9, 1, 6, 1, 7, 1, 4, 1, 5, 1) {
		remove(t, x, s, d)
		checkPlace(t, x, 1, dot(9, 1), api.Left)
		check(t, "left", x, s)
	}
	checkNoPlace(t, x)
	remove(t, x, s, dot(1, 1))
	checkPlace(t, x, 0, dot(1, 1), api.Left)
	checkNoPlace(t, x)
}

// P9.3: one at whose right side there are only such as aren't seen still has them there.
func TestPlaceUnseen(t *testing.T) {
	x, s := of(t, first(1, 1, 'a'), right(2, 1, 1, 1, 'b'), right(3, 1, 2, 1, 'c'))
	remove(t, x, s, dot(2, 1))
	checkPlace(t, x, 1, dot(2, 1), api.Left)
	checkPlace(t, x, 2, dot(3, 1), api.Right)
	remove(t, x, s, dot(3, 1))
	checkPlace(t, x, 1, dot(2, 1), api.Left)
	remove(t, x, s, dot(1, 1))
	checkPlace(t, x, 0, dot(1, 1), api.Left)
	checkNoPlace(t, x)
	check(t, "unseen", x, s)
}
