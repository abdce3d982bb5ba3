package movetree_test

import (
	"math"
	"slices"
	"testing"

	"osier/api"
	"osier/movetree"
)

// P10.1: a new tree has no moves; each one is its own.
func TestNew(t *testing.T) {
	x, s := of(t)
	check(t, "new", x, s)
	tell(t, x, s, made(1, a, root, "n"))
	check(t, "with a block", x, s)
	y, none := of(t)
	check(t, "another one", y, none)
}

// P10.1: a tree that was declared and not made is one without moves, too: no call panics.
func TestDeclared(t *testing.T) {
	var x movetree.Tree
	s := &slow{}
	check(t, "declared", &x, s)
	for _, m := range []move{moved(9, 1, 5, a, b, "n"), made(2, b, root, "n"), made(1, a, root, "n")} {
		tell(t, &x, s, m)
	}
	check(t, "declared and moved", &x, s)
	checkPath(t, &x, a, b, root)
}

// P10.1: an id or a block that may not be, whatever the rest is.
func TestMoveWrong(t *testing.T) {
	for _, l := range [][]move{nil, {made(1, a, root, "n"), made(2, b, a, "m")}} {
		x, s := of(t, l...)
		for _, no := range never() {
			for _, parent := range append(never(), a, b, c) {
				for _, time := range []int{math.MinInt, 0, 1, 5, math.MaxInt} {
					for _, m := range []move{
						{no, time, a, parent, "n"}, {no, time, c, parent, ""}, {no, time, no, parent, "n"},
						{c, time, no, parent, "n"}, {d, time, no, parent, ""},
					} {
						if e := x.Move(m.id, m.time, m.block, m.parent, m.key); e != api.ErrArg {
							t.Errorf("Move of %+v: error %d", m, e)
						}
					}
				}
			}
		}
		check(t, "refused", x, s)
	}
}

// P10.1: a block that may not be is told ahead of an id of which there is a move.
func TestMoveWrongTwice(t *testing.T) {
	x, s := of(t, made(1, a, root, "n"), moved(9, 1, 2, c, root, "n"))
	for _, id := range row(1, 1, 9, 1) {
		for _, no := range never() {
			if e := x.Move(id, 3, no, root, "n"); e != api.ErrArg {
				t.Errorf("Move of %v, of the block %v: error %d", id, no, e)
			}
		}
	}
	check(t, "refused", x, s)
}

// P10.1: an id of which there is a move, whether that one took effect or not, whatever the rest is; nothing changes.
func TestMoveTwice(t *testing.T) {
	l := []move{made(1, a, root, "n"), made(2, b, a, "m"), made(3, c, f, "n"), moved(9, 1, 4, a, b, "n"), moved(9, 2, 4, b, trash, "n"), moved(9, 3, 4, e, a, "n")}
	x, s := of(t, l...)
	checkTook(t, x, true, a, b, dot(9, 2))
	checkTook(t, x, false, c, dot(9, 1), dot(9, 3))
	for _, m := range l {
		for _, time := range []int{math.MinInt, 0, m.time, 9, math.MaxInt} {
			for _, block := range []api.Dot{m.id, m.block, a, c, f} {
				for _, parent := range append(never(), m.parent, a, f) {
					if e := x.Move(m.id, time, block, parent, "x"); e != api.ErrTwice {
						t.Fatalf("Move of %v again: error %d", m.id, e)
					}
				}
			}
		}
		check(t, "refused", x, s)
	}
}

// P10.1: that, right behind the first time, with nothing asked in between.
func TestMoveTwiceAtOnce(t *testing.T) {
	for _, m := range []move{made(1, a, root, "n"), made(1, a, b, "n"), moved(9, 1, 1, a, root, "n")} {
		x, s := of(t, m)
		m.time, m.parent, m.key = 0, trash, "x"
		tell(t, x, s, m)
		tell(t, x, s, m)
		check(t, "twice", x, s)
	}
}

// P10.1: a move that is new is there, with any id, block, parent, time and key.
func TestMoveAny(t *testing.T) {
	for _, id := range append(odd(), a, f) {
		for _, time := range []int{math.MinInt, -1 << 40, -1, 0, 1, api.MaxTime, api.MaxTime + 1, math.MaxInt} {
			for _, key := range []string{"", "n", "\x00", "\xff\xfe", "a key that is none", string(make([]byte, 2*api.MaxKey))} {
				x, s := of(t, made(time, id, root, key), moved(7, 7, time, id, trash, key))
				check(t, "any", x, s)
				x, s = of(t, moved(7, 7, time, id, trash, key), made(time, id, id, key))
				check(t, "without an effect", x, s)
			}
		}
	}
	for _, parent := range append(odd(), api.Dot{}, c) {
		x, s := of(t, made(1, a, root, "n"), made(2, b, parent, "n"), moved(9, 1, 3, a, parent, "m"))
		check(t, "under none that is there", x, s)
		checkPath(t, x, a, root)
		checkPath(t, x, b)
	}
}

// P10.1: what is refused changes nothing, at any point between moves that are taken.
func TestRefusedBetween(t *testing.T) {
	l := hedge()
	x, s := of(t)
	for i, m := range l {
		tell(t, x, s, m)
		before := x.Blocks()
		for _, no := range []move{{api.Dot{}, 0, a, root, "n"}, {root, 0, a, root, "n"}, {trash, 0, a, root, "n"}, {dot(8, 8), 0, trash, root, "n"}, {l[i/2].id, 0, a, trash, "n"}} {
			if e := x.Move(no.id, no.time, no.block, no.parent, no.key); e == api.OK {
				t.Fatalf("Move of %+v is taken", no)
			}
		}
		if !slices.Equal(x.Blocks(), before) {
			t.Fatalf("Blocks are %v, and were %v", x.Blocks(), before)
		}
		check(t, "with some refused", x, s)
	}
}

// P10.3: all calls of nil.
func TestNil(t *testing.T) {
	var x *movetree.Tree
	for _, d := range slices.Concat(never(), odd(), row(1, 1)) {
		for _, m := range []move{{d, 1, a, root, "n"}, {a, 1, d, root, "n"}, {d, 1, d, root, "n"}, {a, 1, a, d, "n"}} {
			if e := x.Move(m.id, m.time, m.block, m.parent, m.key); e != api.ErrArg {
				t.Errorf("Move of %+v: error %d", m, e)
			}
		}
		if p, key, there := x.Parent(d); p != (api.Dot{}) || key != "" || there {
			t.Errorf("Parent of %v is %v, %q, %v", d, p, key, there)
		}
		if x.There(d) || x.Took(d) || len(x.Kids(d)) != 0 || len(x.Path(d)) != 0 {
			t.Errorf("of %v: %v, %v, %v, %v", d, x.There(d), x.Took(d), x.Kids(d), x.Path(d))
		}
	}
	if l := x.Blocks(); len(l) != 0 {
		t.Errorf("Blocks are %v", l)
	}
}
