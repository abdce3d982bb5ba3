package undo_test

import (
	"slices"
	"testing"

	"osier/api"
	"osier/clock"
	"osier/doc"
	"osier/edits"
	"osier/undo"
)

// kinds are edits of each Kind that the garden takes, all of which issue something.
func kinds() []api.Edit {
	return []api.Edit{created(root, 1), created(v, 0), moved(a, b, 0), moved(b, root, 0), thrown(a), thrown(w), inserted(b, 1, "a"), inserted(v, 0, "ab"), deleted(b, 0, 1), deleted(b, 0, 2)}
}

// P15.2, P15.3: ErrArg without a document or a clock, also where nothing is done and undone; nothing changes.
func TestNilAhead(t *testing.T) {
	without := func(u *user) {
		t.Helper()
		for _, f := range []call{
			func(u *user) ([]api.Op, api.Errno) { return u.s.Undo(nil, u.c) },
			func(u *user) ([]api.Op, api.Errno) { return u.s.Undo(u.d, nil) },
			func(u *user) ([]api.Op, api.Errno) { return u.s.Undo(nil, nil) },
			func(u *user) ([]api.Op, api.Errno) { return u.s.Redo(nil, u.c) },
			func(u *user) ([]api.Op, api.Errno) { return u.s.Redo(u.d, nil) },
			func(u *user) ([]api.Op, api.Errno) { return u.s.Redo(nil, nil) },
		} {
			checkRefused(t, "without a document or a clock", u, f, api.ErrArg)
		}
	}
	u, _ := enter(t)
	without(u)
	for _, e := range kinds() {
		u, other := enter(t)
		u.make(t, e)
		without(u)
		must(t)(undoing(u))
		without(u)
		must(t)(redoing(u))
		// Nor does it matter that what was done is gone.
		must(t)(edits.Make(u.d, other, deleted(b, 0, u.d.State().Chars(b).Len())))
		without(u)
	}
}

// P15.2, P15.3: ErrEmpty, if nothing is done, undone; whatever the clock is. Nothing changes.
func TestEmpty(t *testing.T) {
	u, _ := enter(t)
	checkRefused(t, "nothing is done", u, undoing, api.ErrEmpty)
	checkRefused(t, "nothing is undone", u, redoing, api.ErrEmpty)
	right := u.c
	for _, wrong := range []*clock.Clock{tick(t, 7, 3, 0), tick(t, 7, 0, api.MaxTime), {}} {
		u.c = wrong
		checkRefused(t, "nothing is done, and a clock that may not be", u, undoing, api.ErrEmpty)
		checkRefused(t, "nothing is undone, and a clock that may not be", u, redoing, api.ErrEmpty)
	}
	u.c = right
	for _, e := range kinds() {
		u, _ := enter(t)
		u.make(t, e)
		checkRefused(t, "nothing is undone", u, redoing, api.ErrEmpty)
		must(t)(undoing(u))
		checkRefused(t, "all is undone", u, undoing, api.ErrEmpty)
		must(t)(redoing(u))
		checkRefused(t, "all is done again", u, redoing, api.ErrEmpty)
	}
}

// P15.2, P15.3: with the errors of a row that can't be issued nothing changes: behind it the same is undone, and done again, as without it.
func TestOtherErrors(t *testing.T) {
	for _, e := range kinds() {
		u, _ := enter(t)
		plain, _ := enter(t)
		u.make(t, e)
		plain.make(t, e)
		for _, f := range []call{undoing, redoing, undoing, redoing} {
			right := u.c
			for _, y := range []struct {
				c    *clock.Clock
				want api.Errno
			}{{tick(t, 7, right.Seq()+1, 0), api.ErrArg}, {tick(t, 7, right.Seq()-1, 0), api.ErrArg}, {tick(t, gardener, 0, 0), api.ErrArg}, {tick(t, 7, right.Seq(), api.MaxTime), api.ErrSpent}, {tick(t, 9, 0, api.MaxTime), api.ErrSpent}} {
				u.c = y.c
				checkRefused(t, "a row", u, f, y.want)
			}
			u.c = right
			got, want := must(t)(f(u)), must(t)(f(plain))
			if !same(got, want) {
				t.Fatalf("%+v: behind refusals %+v is issued, not %+v", e, got, want)
			}
			checkCounts(t, "behind refusals", u, plain.s.Undos(), plain.s.Redos())
		}
	}
}

// P15.2: a refusal doesn't forget which characters there are, some of which aren't seen.
func TestOtherErrorsSomeSeen(t *testing.T) {
	u, other := enter(t)
	u.make(t, inserted(b, 1, "xyz"))
	right := u.c
	for n, l := range [][]api.Op{{gone(b, dot(7, 1)), gone(b, dot(7, 3))}, {gone(b, dot(7, 7))}} {
		must(t)(edits.Make(u.d, other, deleted(b, 2-n, 1)))
		u.c = tick(t, 7, right.Seq(), api.MaxTime-1+n)
		checkRefused(t, "no Times for all", u, undoing, api.ErrSpent)
		u.c = right
		checkIssued(t, "undone", u, undoing, 0, 1, l...)
		u.c = tick(t, 7, right.Seq()+1, 0)
		checkRefused(t, "a clock that may not be", u, redoing, api.ErrArg)
		u.c = right
		must(t)(redoing(u))
		checkText(t, "done again", u.d, b, []string{"hxzi", "hzi"}[n])
	}
}

// fill puts moves of c into a document till it has so many operations.
func fill(t *testing.T, d *doc.Doc, n int) {
	t.Helper()
	clk := tick(t, 2, 0, 0)
	for len(d.Ops()) < n {
		for range min(500, n-len(d.Ops())) {
			must(t)(edits.Put(d, clk, c, root, "t"))
		}
	}
}

// P15.2: ErrLimit, if there is no room for all; nothing changes. It is ErrGone, and taken off, once none is seen, with or without room.
func TestFull(t *testing.T) {
	u, other := enter(t)
	u.make(t, inserted(b, 1, "xyz"))
	u.make(t, deleted(b, 0, 2))
	u.make(t, inserted(a, 0, "abc"))
	must(t)(undoing(u))
	fill(t, u.d, api.MaxOps-2)
	checkRefused(t, "room for two of three", u, redoing, api.ErrLimit)
	checkCounts(t, "room for two of three", u, 2, 1)
	must(t)(edits.Erase(u.d, other, b, []api.Dot{dot(7, 2)}))
	checkRefused(t, "room for one of two", u, undoing, api.ErrLimit)
	must(t)(edits.Erase(u.d, other, b, []api.Dot{dot(7, 3)}))
	checkRefused(t, "no room", u, undoing, api.ErrLimit)
	checkRefused(t, "no room", u, redoing, api.ErrLimit)
	checkCounts(t, "no room", u, 2, 1)

	u, other = enter(t)
	u.make(t, moved(a, b, 0))
	u.make(t, inserted(b, 1, "xyz"))
	must(t)(edits.Make(u.d, other, deleted(b, 1, 3)))
	fill(t, u.d, api.MaxOps)
	checkGone(t, "gone, and no room", u, undoing, 1, 0)
	checkRefused(t, "no room", u, undoing, api.ErrLimit)
}

// P15.2: what fits is undone: a row that takes all the room there is.
func TestJustFits(t *testing.T) {
	u, _ := enter(t)
	u.make(t, inserted(a, 0, "abc"))
	fill(t, u.d, api.MaxOps-3)
	checkIssued(t, "undone", u, undoing, 0, 1, gone(a, dot(7, 1)), gone(a, dot(7, 2)), gone(a, dot(7, 3)))
	checkRefused(t, "no room", u, redoing, api.ErrLimit)
}

// P15.2: ErrBlock, of a document in which the block isn't; nothing changes. Characters that are in aren't seen there: ErrGone.
func TestOtherDocument(t *testing.T) {
	for _, e := range kinds() {
		u, _ := enter(t)
		u.make(t, e)
		elsewhere := func(f call) call {
			return func(u *user) ([]api.Op, api.Errno) { return f(&user{doc.New(), tick(t, 7, 0, 0), u.s}) }
		}
		if e.Kind == api.EditInsert {
			checkGone(t, "elsewhere", u, elsewhere(undoing), 0, 0)
			continue
		}
		checkRefused(t, "elsewhere", u, elsewhere(undoing), api.ErrBlock)
		must(t)(undoing(u))
		if e.Kind == api.EditDelete {
			checkGone(t, "elsewhere", u, elsewhere(redoing), 0, 0)
			continue
		}
		checkRefused(t, "elsewhere", u, elsewhere(redoing), api.ErrBlock)
	}
}

// P15.2: of a document that has the block, but not the characters: they are written at the beginning, as the Index of a character that isn't there is 0.
func TestOtherText(t *testing.T) {
	u, _ := enter(t)
	d, _ := grow(t)
	must(t)(edits.Make(u.d, tick(t, 8, 0, 0), inserted(b, 2, "!?")))
	u.make(t, deleted(b, 2, 2))
	before := &user{d, tick(t, 7, 0, 0), u.s}
	must(t)(undoing(before))
	checkText(t, "undone elsewhere", d, b, "!?hi")
}

// P15.4: Undos and Redos behind each of the calls, with several of each kind.
func TestCounts(t *testing.T) {
	u, _ := enter(t)
	for n, e := range kinds()[:5] {
		checkCounts(t, "ahead", u, n, 0)
		u.make(t, e)
		checkCounts(t, "done", u, n+1, 0)
	}
	for n := range 5 {
		must(t)(undoing(u))
		checkCounts(t, "undone", u, 4-n, n+1)
	}
	checkRefused(t, "nothing is done", u, undoing, api.ErrEmpty)
	for n := range 3 {
		must(t)(redoing(u))
		checkCounts(t, "done again", u, n+1, 4-n)
	}
	must(t)(undoing(u))
	checkCounts(t, "undone", u, 2, 3)
	u.make(t, inserted(b, 0, ""))
	checkCounts(t, "nothing is issued", u, 2, 3)
	u.make(t, inserted(b, 0, "a"))
	checkCounts(t, "done", u, 3, 0)
}

// P15.4: of nil: ErrArg from Do, Undo and Redo, 0 from Undos and Redos; document and clock don't change.
func TestNilStack(t *testing.T) {
	var s *undo.Stack
	if s.Undos() != 0 || s.Redos() != 0 {
		t.Errorf("of nil %d are done, %d undone", s.Undos(), s.Redos())
	}
	d, clk := grow(t)
	u := &user{d, tick(t, 7, 0, 0), s}
	for _, e := range slices.Concat(kinds(), wanted()[0], refused()) {
		checkRefused(t, "Do of nil", u, doing(e), api.ErrArg)
	}
	checkRefused(t, "Undo of nil", u, undoing, api.ErrArg)
	checkRefused(t, "Redo of nil", u, redoing, api.ErrArg)
	for _, x := range []struct {
		d *doc.Doc
		c *clock.Clock
	}{{nil, nil}, {d, nil}, {nil, clk}} {
		for _, f := range []call{doing(created(root, 0)), undoing, redoing} {
			if l, e := f(&user{x.d, x.c, nil}); e != api.ErrArg || len(l) != 0 {
				t.Errorf("all of nil: %v, error %d", l, e)
			}
		}
	}
}

// P15.2: what several users do by one clock is each one's own: each undoes what they did themselves.
func TestOneClock(t *testing.T) {
	u, _ := enter(t)
	second := &user{u.d, u.c, undo.New()}
	u.make(t, inserted(b, 1, "one"))
	second.make(t, inserted(b, 4, "two"))
	u.make(t, moved(a, c, 0))
	second.make(t, thrown(k))
	checkText(t, "written by both", u.d, b, "honetwoi")
	checkIssued(t, "the first one's move", u, undoing, 1, 1, put(a, root, "g"))
	checkIssued(t, "the second one's move", second, undoing, 1, 1, put(k, a, "n"))
	must(t)(undoing(u))
	checkText(t, "the first one's text", u.d, b, "htwoi")
	must(t)(undoing(second))
	checkText(t, "the second one's text", u.d, b, "hi")
	must(t)(redoing(second))
	must(t)(redoing(u))
	checkText(t, "both again", u.d, b, "htwoonei")
	checkCounts(t, "the first one", u, 1, 1)
	checkCounts(t, "the second one", second, 1, 1)
	checkRefused(t, "a third one", &user{u.d, u.c, undo.New()}, undoing, api.ErrEmpty)
}
