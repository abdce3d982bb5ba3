package undo_test

import (
	"math"
	"slices"
	"testing"

	"osier/api"
	"osier/clock"
	"osier/doc"
	"osier/edits"
	"osier/undo"
)

// P15.1: New: nothing done, nothing undone; each is one of its own. One that is just declared is no other.
func TestNew(t *testing.T) {
	d, clk := grow(t)
	for _, s := range []*undo.Stack{undo.New(), {}} {
		u := &user{d, clk, s}
		checkCounts(t, "New", u, 0, 0)
		checkRefused(t, "New", u, undoing, api.ErrEmpty)
		checkRefused(t, "New", u, redoing, api.ErrEmpty)
	}
	u := &user{d, clk, undo.New()}
	u.make(t, created(root, 0))
	checkCounts(t, "one of its own", &user{d, clk, undo.New()}, 0, 0)
}

// wanted are edits of each Kind that the garden takes, with how many operations each issues.
func wanted() map[int][]api.Edit {
	return map[int][]api.Edit{
		0: {inserted(b, 1, ""), deleted(b, 1, 0), deleted(b, 2, 0), inserted(v, 0, ""), deleted(a, 0, 0)},
		1: {created(root, 0), created(root, 3), created(v, 0), moved(a, b, 0), moved(b, root, 0), moved(w, root, 3), thrown(a), thrown(w), inserted(b, 0, "é"), deleted(b, 1, 1)},
		2: {inserted(b, 2, "ab"), inserted(w, 0, "\n😀"), deleted(b, 0, 2)},
	}
}

// refused are edits that the garden refuses.
func refused() []api.Edit {
	return []api.Edit{
		{}, {Kind: -1}, {Kind: 6, Block: a, Parent: root}, {Kind: math.MaxInt},
		created(trash, 0), created(dot(9, 9), 0), created(root, -1), created(root, 4),
		moved(dot(9, 9), root, 0), moved(none, root, 0), moved(a, trash, 0), moved(a, l, 0), moved(a, a, 0), moved(a, root, 3),
		thrown(none), thrown(root), thrown(trash), thrown(h),
		inserted(none, 0, "a"), inserted(h, 0, ""), inserted(b, 0, "\xff"), inserted(b, 3, "a"), inserted(b, -1, ""), inserted(b, 0, string(make([]byte, api.MaxText+1))),
		deleted(none, 0, 0), deleted(b, 0, 3), deleted(b, -1, 1), deleted(b, 0, -1), deleted(b, 0, api.MaxText+1), deleted(b, math.MaxInt, 1),
	}
}

// P15.1: Do issues what Make issues, in a document that is the same; what issued something is kept, what issued nothing isn't.
func TestDo(t *testing.T) {
	for n, l := range wanted() {
		for _, e := range l {
			u, _ := enter(t)
			d, _ := grow(t)
			want := must(t)(edits.Make(d, tick(t, 7, 0, 0), e))
			got := u.make(t, e)
			if len(got) != n || !same(got, want) || !same(u.d.Ops(), d.Ops()) || u.d.Show() != d.Show() || u.c.Seq() != n {
				t.Errorf("Do of %+v: %+v, not %+v", e, got, want)
			}
			checkCounts(t, "Do", u, min(n, 1), 0)
		}
	}
}

// P15.1: Do tells the errors of Make, and keeps nothing then; nothing changes.
func TestDoRefused(t *testing.T) {
	u, _ := enter(t)
	u.make(t, created(c, 0))
	u.make(t, thrown(a))
	must(t)(undoing(u))
	d, _ := grow(t)
	for _, e := range refused() {
		_, want := edits.Make(d, tick(t, 7, 0, 0), e)
		if want == api.OK {
			t.Fatalf("Make takes %+v", e)
		}
		checkRefused(t, "Do", u, doing(e), want)
	}
	checkCounts(t, "Do", u, 1, 1)
	checkIssued(t, "what was undone", u, redoing, 2, 0, put(a, trash, "t"))
}

// P15.1: Do tells what Make tells of a row that can't be issued: a clock that may not be, one that is used up.
func TestDoRow(t *testing.T) {
	u, _ := enter(t)
	u.make(t, inserted(b, 0, "ab"))
	right := u.c
	for _, y := range []struct {
		c    *clock.Clock
		want api.Errno
	}{{tick(t, 7, 0, 0), api.ErrArg}, {tick(t, 7, 3, 0), api.ErrArg}, {tick(t, 8, 0, api.MaxTime), api.ErrSpent}} {
		u.c = y.c
		for _, e := range wanted()[1] {
			checkRefused(t, "a row", u, doing(e), y.want)
		}
	}
	u.c = right
	checkIssued(t, "what was done", u, undoing, 0, 1, gone(b, dot(7, 1)), gone(b, dot(7, 2)))
}

// P15.1: ErrArg without a document or a clock, of each edit; nothing is kept, and what was undone stays undone.
func TestDoNil(t *testing.T) {
	u, _ := enter(t)
	u.make(t, created(root, 0))
	u.make(t, thrown(a))
	must(t)(undoing(u))
	all := slices.Concat(wanted()[0], wanted()[1], wanted()[2], refused())
	for _, e := range all {
		checkRefused(t, "without a document", u, func(u *user) ([]api.Op, api.Errno) { return u.s.Do(nil, u.c, e) }, api.ErrArg)
		checkRefused(t, "without a clock", u, func(u *user) ([]api.Op, api.Errno) { return u.s.Do(u.d, nil, e) }, api.ErrArg)
		checkRefused(t, "without both", u, func(u *user) ([]api.Op, api.Errno) { return u.s.Do(nil, nil, e) }, api.ErrArg)
	}
}

// P15.1: once something is done nothing is undone any more; where nothing is issued, what was undone stays so.
func TestDoForgets(t *testing.T) {
	for n, l := range wanted() {
		for _, e := range l {
			u, _ := enter(t)
			u.make(t, created(c, 0))
			u.make(t, created(c, 1))
			u.make(t, created(c, 0))
			must(t)(undoing(u))
			must(t)(undoing(u))
			checkCounts(t, "undone", u, 1, 2)
			u.make(t, e)
			if n == 0 {
				checkCounts(t, "nothing is issued", u, 1, 2)
				checkIssued(t, "done again", u, redoing, 2, 1, put(dot(7, 2), c, "t"))
				continue
			}
			checkCounts(t, "something is done", u, 2, 0)
			checkRefused(t, "nothing is undone", u, redoing, api.ErrEmpty)
		}
	}
}

// P15.1: what is done is uppermost.
func TestDoUppermost(t *testing.T) {
	u, _ := enter(t)
	u.make(t, moved(a, c, 0))
	u.make(t, inserted(b, 0, "a"))
	u.make(t, thrown(b))
	u.make(t, deleted(b, 1, 1))
	checkIssued(t, "the fourth", u, undoing, 3, 1, character(b, dot(7, 2), api.Right, 'h'))
	checkIssued(t, "the third", u, undoing, 2, 2, put(b, root, "n"))
	checkIssued(t, "the second", u, undoing, 1, 3, gone(b, dot(7, 2)))
	checkIssued(t, "the first", u, undoing, 0, 4, put(a, root, "g"))
	checkRefused(t, "no other", u, undoing, api.ErrEmpty)
}

// P15.1: fields of an edit that its Kind doesn't use don't matter: a block that is made was nowhere, whatever Block is.
func TestDoOtherFields(t *testing.T) {
	for _, block := range []api.Dot{a, b, w, h, root, trash, dot(9, 9)} {
		u, _ := enter(t)
		e := created(root, 1)
		e.Block, e.Count, e.Text = block, -4, "\xff"
		u.make(t, e)
		checkIssued(t, "made", u, undoing, 0, 1, put(dot(7, 1), trash, "t"))
		checkIssued(t, "made again", u, redoing, 1, 0, put(dot(7, 1), root, "j"))
	}
	u, _ := enter(t)
	e := thrown(a)
	e.Parent, e.Index, e.Text = c, 17, "a"
	u.make(t, e)
	checkIssued(t, "thrown away", u, undoing, 0, 1, put(a, root, "g"))
	checkIssued(t, "thrown away again", u, redoing, 1, 0, put(a, trash, "t"))
}

// P15.1: what is answered is new memory.
func TestNewMemory(t *testing.T) {
	u, _ := enter(t)
	spoil := func(l []api.Op) {
		for n := range l {
			for at := range l[n].Deps {
				l[n].Deps[at] = dot(5, 5)
			}
			l[n] = api.Op{Id: dot(6, 6), Block: dot(6, 6), Char: 'q', Key: "q"}
		}
	}
	spoil(u.make(t, inserted(b, 0, "ab")))
	spoil(u.make(t, moved(a, b, 0)))
	for range 3 {
		for _, f := range []call{undoing, undoing, redoing, redoing} {
			was := u.d.Ops()
			l := must(t)(f(u))
			n := len(l)
			spoil(l)
			if !same(u.d.Ops()[:len(was)], was) || u.d.Ops()[len(was)].Id == dot(6, 6) || len(u.d.Ops()) != len(was)+n {
				t.Fatal("the document changed with what was answered")
			}
		}
	}
	checkText(t, "done again", u.d, b, "abhi")
	checkPlace(t, "done again", u.d, a, b, "n")
}

// P15.1: a document and a clock that are just declared.
func TestDeclared(t *testing.T) {
	u := &user{&doc.Doc{}, &clock.Clock{}, &undo.Stack{}}
	u.make(t, created(root, 0))
	u.make(t, inserted(dot(0, 1), 0, "ab"))
	for range 3 {
		must(t)(undoing(u))
		must(t)(undoing(u))
		if s := u.d.Show(); s != "" {
			t.Errorf("it is shown as %q", s)
		}
		must(t)(redoing(u))
		must(t)(redoing(u))
		if s := u.d.Show(); s != "- ab\n" {
			t.Errorf("it is shown as %q", s)
		}
	}
}
