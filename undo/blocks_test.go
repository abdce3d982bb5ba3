package undo_test

import (
	"strings"
	"testing"

	"osier/api"
	"osier/edits"
)

// P15.2, P15.3: a block that was moved: Undo puts it to where it lay ahead, Redo to where the move put it, with the same keys; as often as one likes, one fresh move each time.
func TestMoved(t *testing.T) {
	for _, y := range []struct {
		block, parent api.Dot
		index         int
		was           place
		key           string
	}{
		{a, b, 0, place{root, "g"}, "n"}, {b, root, 0, place{root, "n"}, "d"}, {b, root, 2, place{root, "n"}, "w"}, {b, root, 1, place{root, "n"}, "m"},
		{k, root, 3, place{a, "n"}, "w"}, {l, a, 1, place{k, "n"}, "t"}, {l, k, 0, place{k, "n"}, "n"},
		{w, root, 1, place{trash, "n"}, "j"}, {v, c, 0, place{w, "n"}, "n"}, {c, w, 0, place{root, "t"}, "g"}, {c, v, 0, place{root, "t"}, "n"},
	} {
		u, _ := enter(t)
		checkIssued(t, "moved", u, doing(moved(y.block, y.parent, y.index)), 1, 0, put(y.block, y.parent, y.key))
		for range 3 {
			checkIssued(t, "undone", u, undoing, 0, 1, put(y.block, y.was.parent, y.was.key))
			checkPlace(t, "undone", u.d, y.block, y.was.parent, y.was.key)
			checkIssued(t, "done again", u, redoing, 1, 0, put(y.block, y.parent, y.key))
			checkPlace(t, "done again", u.d, y.block, y.parent, y.key)
		}
	}
}

// P15.2, P15.3: a block that was trashed: Undo puts it to where it lay ahead, also within the Trash; Redo into the Trash, with the key that it had there.
func TestThrown(t *testing.T) {
	for _, y := range []struct {
		block api.Dot
		was   place
		key   string
	}{{a, place{root, "g"}, "t"}, {b, place{root, "n"}, "t"}, {l, place{k, "n"}, "t"}, {v, place{w, "n"}, "t"}, {w, place{trash, "n"}, "n"}} {
		u, other := enter(t)
		checkIssued(t, "thrown away", u, doing(thrown(y.block)), 1, 0, put(y.block, trash, y.key))
		for range 3 {
			checkIssued(t, "undone", u, undoing, 0, 1, put(y.block, y.was.parent, y.was.key))
			// What lies in the Trash by then doesn't matter.
			must(t)(edits.Make(u.d, other, thrown(c)))
			checkIssued(t, "done again", u, redoing, 1, 0, put(y.block, trash, y.key))
		}
	}
}

// P15.2, P15.3: a block that was made: Undo throws it away, behind all that lie in the Trash by then; Redo puts it to where it was made.
func TestMade(t *testing.T) {
	for _, y := range []struct {
		parent api.Dot
		index  int
		key    string
	}{{root, 0, "d"}, {root, 1, "j"}, {root, 3, "w"}, {a, 1, "t"}, {l, 0, "n"}, {w, 0, "g"}, {v, 0, "n"}} {
		u, other := enter(t)
		one := dot(7, 1)
		checkIssued(t, "made", u, doing(created(y.parent, y.index)), 1, 0, put(one, y.parent, y.key))
		checkIssued(t, "undone", u, undoing, 0, 1, put(one, trash, "t"))
		checkKids(t, "undone", u.d, trash, w, one)
		checkIssued(t, "done again", u, redoing, 1, 0, put(one, y.parent, y.key))
		checkPlace(t, "done again", u.d, one, y.parent, y.key)
		must(t)(edits.Make(u.d, other, thrown(c)))
		checkIssued(t, "undone, behind another one", u, undoing, 0, 1, put(one, trash, "w"))
		checkKids(t, "undone, behind another one", u.d, trash, w, c, one)
		checkIssued(t, "done again", u, redoing, 1, 0, put(one, y.parent, y.key))
	}
}

// P15.2, P15.3: wherever others put the block meanwhile, Undo puts it to where it lay ahead of the edit, Redo to where the edit put it.
func TestMovedByOthers(t *testing.T) {
	for _, y := range []struct {
		e        api.Edit
		block    api.Dot
		was, put place
	}{
		{e: moved(a, b, 0), block: a, was: place{root, "g"}, put: place{b, "n"}},
		{e: thrown(a), block: a, was: place{root, "g"}, put: place{trash, "t"}},
		{e: created(b, 0), block: dot(7, 1), was: place{trash, "t"}, put: place{b, "n"}},
	} {
		u, other := enter(t)
		u.make(t, y.e)
		for range 2 {
			must(t)(edits.Put(u.d, other, y.block, c, "g"))
			checkIssued(t, "undone", u, undoing, 0, 1, put(y.block, y.was.parent, y.was.key))
			must(t)(edits.Put(u.d, other, y.block, c, "k"))
			checkIssued(t, "done again", u, redoing, 1, 0, put(y.block, y.put.parent, y.put.key))
		}
	}
}

// P15.2, P15.3: ErrCycle, where the place lies under the block by then; nothing changes, and it can be undone, and done again, once it doesn't.
func TestCycle(t *testing.T) {
	u, other := enter(t)
	u.make(t, moved(k, b, 0))
	must(t)(edits.Put(u.d, other, a, k, "n"))
	checkRefused(t, "where it lay is under it", u, undoing, api.ErrCycle)
	checkRefused(t, "once more", u, undoing, api.ErrCycle)
	must(t)(edits.Put(u.d, other, a, root, "g"))
	checkIssued(t, "undone", u, undoing, 0, 1, put(k, a, "n"))
	must(t)(edits.Put(u.d, other, b, l, "n"))
	checkRefused(t, "where it was put is under it", u, redoing, api.ErrCycle)
	checkRefused(t, "once more", u, redoing, api.ErrCycle)
	must(t)(edits.Put(u.d, other, b, root, "n"))
	checkIssued(t, "done again", u, redoing, 1, 0, put(k, b, "n"))
}

// P15.2: ErrKey, where there is no key behind the last one in the Trash; nothing changes. Only one that was made needs a key.
func TestNoKey(t *testing.T) {
	u, other := enter(t)
	u.make(t, thrown(a))
	u.make(t, created(root, 0))
	must(t)(edits.Put(u.d, other, c, trash, strings.Repeat("z", api.MaxKey)))
	checkRefused(t, "no key", u, undoing, api.ErrKey)
	checkCounts(t, "no key", u, 2, 0)
	must(t)(edits.Put(u.d, other, c, root, "t"))
	checkIssued(t, "undone", u, undoing, 1, 1, put(dot(7, 2), trash, "w"))
	checkIssued(t, "undone, too", u, undoing, 0, 2, put(a, root, "g"))
	must(t)(edits.Put(u.d, other, c, trash, strings.Repeat("z", api.MaxKey)))
	checkIssued(t, "done again", u, redoing, 1, 1, put(a, trash, "t"))
}

// P15.2, P15.3: moves of one block, undone and done again one by one: each goes to where it lay ahead of it, or where it put it.
func TestMovedInARow(t *testing.T) {
	u, _ := enter(t)
	places := []place{{root, "g"}}
	for _, e := range []api.Edit{moved(a, b, 0), moved(a, c, 0), thrown(a), moved(a, root, 2), moved(a, w, 1)} {
		o := u.make(t, e)[0]
		places = append(places, place{o.Parent, o.Key})
	}
	last := len(places) - 1
	for range 2 {
		for n := range last {
			p := places[last-1-n]
			checkIssued(t, "undone", u, undoing, last-1-n, n+1, put(a, p.parent, p.key))
		}
		checkRefused(t, "nothing is done", u, undoing, api.ErrEmpty)
		for n := range last {
			p := places[n+1]
			checkIssued(t, "done again", u, redoing, n+1, last-1-n, put(a, p.parent, p.key))
		}
		checkRefused(t, "nothing is undone", u, redoing, api.ErrEmpty)
	}
}
