package undo_test

import (
	"reflect"
	"slices"
	"testing"

	"osier/api"
	"osier/clock"
	"osier/doc"
	"osier/edits"
	"osier/ops"
	"osier/undo"
	"osier/vector"
)

// The calls, with just the signatures that the chapter lists.
var (
	_ func() *undo.Stack                                                                = undo.New
	_ func(s *undo.Stack, d *doc.Doc, c *clock.Clock, e api.Edit) ([]api.Op, api.Errno) = (*undo.Stack).Do
	_ func(s *undo.Stack, d *doc.Doc, c *clock.Clock) (issued []api.Op, err api.Errno)  = (*undo.Stack).Undo
	_ func(s *undo.Stack, d *doc.Doc, c *clock.Clock) (again []api.Op, err api.Errno)   = (*undo.Stack).Redo
	_ func(s *undo.Stack) int                                                           = (*undo.Stack).Undos
	_ func(s *undo.Stack) int                                                           = (*undo.Stack).Redos
)

// dot is the dot act.seq.
func dot(act, seq int) api.Dot { return api.Dot{Act: act, Seq: seq} }

var none, root, trash = api.Dot{}, api.Root(), api.Trash()

// user is one who does something in a document, and undoes it.
type user struct {
	d *doc.Doc
	c *clock.Clock
	s *undo.Stack
}

// tick is a clock.
func tick(t *testing.T, actor, seq, time int) *clock.Clock {
	t.Helper()
	c, e := clock.New(actor, seq, time)
	if e != api.OK {
		t.Fatalf("New of %d, %d, %d: error %d", actor, seq, time, e)
	}
	return c
}

// gardener is who made the garden: the actor 1.
const gardener = 1

// The blocks of the garden: a, b and c under Root, k under a, l under k; w in the Trash, v under w. In b `hi` is seen, as h and i; x stood between them, and isn't seen any more.
var (
	a, b, c, k, l, w, v = dot(1, 1), dot(1, 2), dot(1, 3), dot(1, 4), dot(1, 5), dot(1, 6), dot(1, 7)
	h, x, i             = dot(1, 8), dot(1, 9), dot(1, 10)
)

// grow is a garden, with the clock of its gardener.
func grow(t *testing.T) (*doc.Doc, *clock.Clock) {
	t.Helper()
	d, clk := doc.New(), tick(t, gardener, 0, 0)
	for _, p := range []struct {
		parent api.Dot
		key    string
	}{{root, "g"}, {root, "n"}, {root, "t"}, {a, "n"}, {k, "n"}, {trash, "n"}, {w, "n"}} {
		must(t)(edits.Put(d, clk, none, p.parent, p.key))
	}
	must(t)(edits.Write(d, clk, b, 0, []int{'h', 'x', 'i'}))
	must(t)(edits.Erase(d, clk, b, []api.Dot{x}))
	return d, clk
}

// must has what is issued without an error.
func must(t *testing.T) func(l []api.Op, e api.Errno) []api.Op {
	return func(l []api.Op, e api.Errno) []api.Op {
		t.Helper()
		if e != api.OK {
			t.Fatalf("error %d", e)
		}
		return l
	}
}

// enter is a user of the actor 7 in a garden, with the clock of the gardener, who goes on there.
func enter(t *testing.T) (*user, *clock.Clock) {
	t.Helper()
	d, other := grow(t)
	return &user{d, tick(t, 7, 0, 0), undo.New()}, other
}

// make does an edit that isn't refused.
func (u *user) make(t *testing.T, e api.Edit) []api.Op {
	t.Helper()
	return must(t)(u.s.Do(u.d, u.c, e))
}

// call is one of the calls on a user's stack.
type call func(u *user) ([]api.Op, api.Errno)

func undoing(u *user) ([]api.Op, api.Errno) { return u.s.Undo(u.d, u.c) }

func redoing(u *user) ([]api.Op, api.Errno) { return u.s.Redo(u.d, u.c) }

func doing(e api.Edit) call {
	return func(u *user) ([]api.Op, api.Errno) { return u.s.Do(u.d, u.c, e) }
}

// created, moved, thrown, inserted, deleted are edits.
func created(parent api.Dot, index int) api.Edit {
	return api.Edit{Kind: api.EditCreate, Parent: parent, Index: index}
}

func moved(block, parent api.Dot, index int) api.Edit {
	return api.Edit{Kind: api.EditMove, Block: block, Parent: parent, Index: index}
}

func thrown(block api.Dot) api.Edit { return api.Edit{Kind: api.EditTrash, Block: block} }

func inserted(block api.Dot, index int, text string) api.Edit {
	return api.Edit{Kind: api.EditInsert, Block: block, Index: index, Text: text}
}

func deleted(block api.Dot, index, count int) api.Edit {
	return api.Edit{Kind: api.EditDelete, Block: block, Index: index, Count: count}
}

// put, character and gone are operations without their heads.
func put(block, parent api.Dot, key string) api.Op {
	return api.Op{Kind: api.Move, Block: block, Parent: parent, Key: key}
}

func character(block, at api.Dot, side, char int) api.Op {
	return api.Op{Kind: api.Insert, Block: block, At: at, Side: side, Char: char}
}

func gone(block, at api.Dot) api.Op { return api.Op{Kind: api.Delete, Block: block, At: at} }

// past is all that can be seen of a document, a clock and a stack.
type past struct {
	version       api.Vector
	ops, waiting  []api.Op
	kids          map[api.Dot][]api.Dot
	places        map[api.Dot]place
	texts         map[api.Dot]string
	dots          map[api.Dot][]api.Dot
	seq, time     int
	undos, redone int
}

// place is where a block lies.
type place struct {
	parent api.Dot
	key    string
}

// placeOf is where a block lies in a document.
func placeOf(d *doc.Doc, block api.Dot) place {
	parent, key, _ := d.State().Tree().Parent(block)
	return place{parent, key}
}

// seen is what is seen of a user's things.
func seen(u *user) past {
	s := u.d.State()
	p := past{
		version: u.d.Version(), ops: u.d.Ops(), waiting: u.d.Waiting(),
		kids: map[api.Dot][]api.Dot{}, places: map[api.Dot]place{}, texts: map[api.Dot]string{}, dots: map[api.Dot][]api.Dot{},
		seq: u.c.Seq(), time: u.c.Time(), undos: u.s.Undos(), redone: u.s.Redos(),
	}
	for _, b := range append(s.Tree().Blocks(), root, trash) {
		p.kids[b], p.places[b], p.texts[b], p.dots[b] = s.Tree().Kids(b), placeOf(u.d, b), s.Text(b), s.Chars(b).Dots()
	}
	return p
}

// checkRefused looks that a call is refused with an error, and that nothing is issued and nothing changes.
func checkRefused(t *testing.T, what string, u *user, f call, want api.Errno) {
	t.Helper()
	was := seen(u)
	got, e := f(u)
	if e != want || len(got) != 0 {
		t.Errorf("%s: %v, error %d, not error %d", what, got, e, want)
	}
	if !reflect.DeepEqual(seen(u), was) {
		t.Errorf("%s: the refusal changed something", what)
	}
}

// headed are operations with the heads that they get when a row of them is issued.
func headed(u *user, l []api.Op) []api.Op {
	deps, time := u.d.Version(), max(u.c.Time(), u.d.Time())
	var out []api.Op
	for n, o := range l {
		o.Id, o.Time, o.Deps = dot(u.c.Actor(), u.c.Seq()+1+n), time+1+n, deps
		deps = vector.With(deps, o.Id)
		out = append(out, o)
	}
	return out
}

// same tells whether two rows are the same.
func same(a, b []api.Op) bool { return slices.EqualFunc(a, b, ops.Same) }

// checkIssued looks that a call issues a row of these operations, whose heads don't matter, that document and clock have them then, and how many are done and undone.
func checkIssued(t *testing.T, what string, u *user, f call, undos, redos int, l ...api.Op) {
	t.Helper()
	was, want := seen(u), headed(u, l)
	got, e := f(u)
	if e != api.OK || !same(got, want) {
		t.Fatalf("%s: error %d, issued is\n%+v, not\n%+v", what, e, got, want)
	}
	if !same(u.d.Ops(), append(was.ops, want...)) || u.c.Seq() != was.seq+len(l) {
		t.Errorf("%s: document or clock lack what was issued", what)
	}
	checkCounts(t, what, u, undos, redos)
}

// checkGone looks that a call tells ErrGone, that document and clock don't change, and how many are done and undone then.
func checkGone(t *testing.T, what string, u *user, f call, undos, redos int) {
	t.Helper()
	was := seen(u)
	if got, e := f(u); e != api.ErrGone || len(got) != 0 {
		t.Fatalf("%s: %v, error %d, not ErrGone", what, got, e)
	}
	was.undos, was.redone = undos, redos
	if !reflect.DeepEqual(seen(u), was) {
		t.Errorf("%s: the document or the clock changed, or %d, %d are done and undone", what, u.s.Undos(), u.s.Redos())
	}
}

// checkCounts looks at how many are done and undone.
func checkCounts(t *testing.T, what string, u *user, undos, redos int) {
	t.Helper()
	if u.s.Undos() != undos || u.s.Redos() != redos {
		t.Errorf("%s: %d are done, %d undone, not %d, %d", what, u.s.Undos(), u.s.Redos(), undos, redos)
	}
}

// checkText looks at a block's text.
func checkText(t *testing.T, what string, d *doc.Doc, block api.Dot, want string) {
	t.Helper()
	if got := d.State().Text(block); got != want {
		t.Errorf("%s: the text of %v is %q, not %q", what, block, got, want)
	}
}

// checkPlace looks at where a block lies.
func checkPlace(t *testing.T, what string, d *doc.Doc, block, parent api.Dot, key string) {
	t.Helper()
	if got := placeOf(d, block); got != (place{parent, key}) {
		t.Errorf("%s: %v lies at %v, not under %v with %q", what, block, got, parent, key)
	}
}

// checkKids looks at what lies under a block.
func checkKids(t *testing.T, what string, d *doc.Doc, parent api.Dot, want ...api.Dot) {
	t.Helper()
	if got := d.State().Tree().Kids(parent); !slices.Equal(got, want) {
		t.Errorf("%s: the Kids of %v are %v, not %v", what, parent, got, want)
	}
}

// P15.2, P15.3: the chapter's examples.
func TestExamples(t *testing.T) {
	u := &user{doc.New(), tick(t, 7, 0, 0), undo.New()}
	made := u.make(t, created(root, 0))[0]
	must(t)(undoing(u))
	checkPlace(t, "made, and undone", u.d, made.Id, trash, "n")
	must(t)(redoing(u))
	checkPlace(t, "made, and done again", u.d, made.Id, root, made.Key)

	ab := u.make(t, inserted(made.Id, 0, "ab"))
	must(t)(edits.Erase(u.d, tick(t, 8, 0, 0), made.Id, []api.Dot{ab[0].Id}))
	must(t)(undoing(u))
	checkText(t, "undone", u.d, made.Id, "")
	must(t)(redoing(u))
	checkText(t, "done again", u.d, made.Id, "b")
}
