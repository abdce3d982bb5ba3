package fugue_test

import (
	"math"
	"testing"

	"osier/api"
	"osier/fugue"
)

// P9.1: New has no characters, and none of what another one has.
func TestNew(t *testing.T) {
	x := fugue.New()
	check(t, "new", x, &slow{})
	y, s := of(t, bush()...)
	check(t, "another one", y, s)
	check(t, "new beside another one", x, &slow{})
	check(t, "new again", fugue.New(), &slow{})
}

// refused puts in what may not be, into nothing and beside others that are seen and that aren't, and looks that nothing changes.
func refused(t *testing.T, want api.Errno, l ...put) {
	t.Helper()
	x, s := of(t, bush()...)
	remove(t, x, s, dot(1, 5))
	for _, p := range l {
		if e := x.Insert(p.id, p.at, p.side, p.char); e != want {
			t.Errorf("Insert of %+v: error %d, not %d", p, e, want)
		}
		check(t, "behind what is refused", x, s)
	}
	// What was refused left nothing behind, that comes to light later.
	for _, p := range []put{right(77, 7, 2, 1, 'x'), left(77, 8, 77, 7, 'y'), right(9, 9, 77, 7, 'z'), first(77, 9, 'w'), left(1, 8, 1, 5, 'v')} {
		insert(t, x, s, p)
	}
	check(t, "later", x, s)
}

// P9.1: what may not be is ErrArg, ahead of the others: an id that is Dot{}, a side that is neither, Dot{} with Left.
func TestInsertArg(t *testing.T) {
	var l []put
	for _, above := range row(0, 0, 2, 1, 1, 5, 77, 7) {
		l = append(l, put{at: above, side: api.Right, char: 'x'}, put{at: above, side: api.Left, char: 'x'}, put{at: above, side: 2, char: 'x'})
		for _, id := range row(77, 7, 2, 1, 1, 5) {
			for _, side := range []int{-1, 2, 3, 256, 1 << 32, 1<<32 + 1, math.MinInt, math.MaxInt} {
				l = append(l, put{id: id, at: above, side: side, char: 'x'})
			}
		}
	}
	for _, id := range row(77, 7, 2, 1, 1, 5) {
		l = append(l, put{id: id, side: api.Left, char: 'x'})
	}
	refused(t, api.ErrArg, l...)
	x := fugue.New()
	for _, p := range l {
		if e := x.Insert(p.id, p.at, p.side, p.char); e != api.ErrArg {
			t.Errorf("Insert of %+v into nothing: error %d", p, e)
		}
	}
	check(t, "nothing", x, &slow{})
}

// P9.1: an id that is there is ErrTwice, whether it is seen or not, wherever it is to be put in, ahead of ErrIndex.
func TestInsertTwice(t *testing.T) {
	var l []put
	for _, id := range row(2, 1, 1, 5, 0, 2, 6, 2) {
		for _, above := range row(0, 0, 2, 1, 1, 5, 77, 7, 0, -1) {
			l = append(l, put{id: id, at: above, side: api.Right, char: 'x'})
			if above != dot(0, 0) {
				l = append(l, put{id: id, at: above, side: api.Left, char: 'x'})
			}
		}
	}
	refused(t, api.ErrTwice, append(l, bush()...)...)
}

// P9.1: a character that there isn't is ErrIndex, be it the one that is put in.
func TestInsertIndex(t *testing.T) {
	var l []put
	for _, above := range append(odd(), dot(77, 7), dot(2, 2), dot(1, 9)) {
		for _, side := range []int{api.Left, api.Right} {
			l = append(l, put{id: dot(77, 7), at: above, side: side, char: 'x'}, put{id: dot(88, 8), at: above, side: side, char: 'x'})
		}
	}
	refused(t, api.ErrIndex, l...)
	x := fugue.New()
	for _, p := range l {
		if e := x.Insert(p.id, p.at, p.side, p.char); e != api.ErrIndex {
			t.Errorf("Insert of %+v into nothing: error %d", p, e)
		}
	}
	check(t, "nothing", x, &slow{})
}

// P9.1: one that is put in is there, seen, at its side, also under one that isn't seen any more.
func TestInsert(t *testing.T) {
	x, s := of(t)
	for _, p := range bush() {
		insert(t, x, s, p)
		if !x.Seen(p.id) {
			t.Errorf("%v isn't seen", p.id)
		}
		check(t, "put in", x, s)
	}
	remove(t, x, s, dot(2, 1))
	remove(t, x, s, dot(4, 2))
	for _, p := range []put{left(8, 1, 2, 1, '1'), right(8, 2, 2, 1, '2'), left(8, 3, 4, 2, '3'), right(8, 4, 4, 2, '4')} {
		insert(t, x, s, p)
		check(t, "put in under what isn't seen", x, s)
	}
}

// P9.1: all identities but the empty one may be, and all chars.
func TestInsertOdd(t *testing.T) {
	x, s := of(t, first(1, 1, 'a'))
	for i, d := range odd() {
		insert(t, x, s, put{id: d, side: api.Right, char: i - 5})
	}
	check(t, "odd ones", x, s)
	for i, d := range odd() {
		insert(t, x, s, put{id: dot(50, i), at: d, side: i % 2, char: math.MaxInt - i})
		if i%3 == 0 {
			remove(t, x, s, d)
		}
	}
	check(t, "under odd ones", x, s)
}

// P9.1: Delete of one that there isn't is ErrIndex, the root among them, and changes nothing.
func TestDeleteNone(t *testing.T) {
	x, s := of(t)
	for range 2 {
		for _, d := range append(odd(), dot(0, 0), dot(77, 7), dot(2, 2)) {
			if e := x.Delete(d); e != api.ErrIndex {
				t.Errorf("Delete of %v: error %d", d, e)
			}
			check(t, "nothing taken out", x, s)
		}
		x, s = of(t, bush()...)
		remove(t, x, s, dot(2, 1))
	}
	// One that was taken out ahead of being put in is seen all the same.
	insert(t, x, s, right(77, 7, 2, 1, 'x'))
	check(t, "put in later", x, s)
}

// P9.1: Delete of one that is seen, and once more: it isn't seen any more, stays where it is, and can't be put in again.
func TestDelete(t *testing.T) {
	x, s := of(t, bush()...)
	for _, p := range bush() {
		for range 2 {
			if e := x.Delete(p.id); e != api.OK || s.remove(p.id) != api.OK {
				t.Errorf("Delete of %v: error %d", p.id, e)
			}
			check(t, "taken out", x, s)
			if e := x.Insert(p.id, p.at, p.side, p.char); e != api.ErrTwice {
				t.Errorf("Insert of %v: error %d", p.id, e)
			}
		}
	}
	if x.Len() != 0 || x.Size() != len(bush()) {
		t.Errorf("%d of %d are left", x.Len(), x.Size())
	}
}
