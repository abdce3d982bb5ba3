package edits_test

import (
	"reflect"
	"slices"
	"testing"

	"osier/api"
	"osier/clock"
	"osier/doc"
	"osier/edits"
	"osier/ops"
	"osier/vector"
)

// The calls, with just the signatures that the chapter lists.
var (
	_ func(d *doc.Doc, c *clock.Clock, e api.Edit) ([]api.Op, api.Errno)                                = edits.Make
	_ func(d *doc.Doc, c *clock.Clock, block, parent api.Dot, key string) ([]api.Op, api.Errno)         = edits.Put
	_ func(d *doc.Doc, c *clock.Clock, block api.Dot, index int, chars []int) ([]api.Op, api.Errno)     = edits.Write
	_ func(d *doc.Doc, c *clock.Clock, block api.Dot, chars []api.Dot) (issued []api.Op, err api.Errno) = edits.Erase
)

// dot is the dot act.seq.
func dot(act, seq int) api.Dot { return api.Dot{Act: act, Seq: seq} }

var none, root, trash = api.Dot{}, api.Root(), api.Trash()

// vec is a vector of Acts and Seqs, by turns.
func vec(n ...int) api.Vector {
	var v api.Vector
	for i := 0; i+1 < len(n); i += 2 {
		v = append(v, dot(n[i], n[i+1]))
	}
	return v
}

// made is the making of a block.
func made(act, seq, time int, parent api.Dot, key string, deps ...int) api.Op {
	return moved(act, seq, time, dot(act, seq), parent, key, deps...)
}

// moved is a move of a block, with Deps of Acts and Seqs, by turns.
func moved(act, seq, time int, block, parent api.Dot, key string, deps ...int) api.Op {
	return api.Op{Id: dot(act, seq), Time: time, Deps: vec(deps...), Kind: api.Move, Block: block, Parent: parent, Key: key}
}

// put is a character that is put into a block, at the right side of another one.
func put(act, seq, time int, block, at api.Dot, char int, deps ...int) api.Op {
	return api.Op{Id: dot(act, seq), Time: time, Deps: vec(deps...), Kind: api.Insert, Block: block, At: at, Side: api.Right, Char: char}
}

// taken is a character that is taken out of a block's sight.
func taken(act, seq, time int, block, at api.Dot, deps ...int) api.Op {
	return api.Op{Id: dot(act, seq), Time: time, Deps: vec(deps...), Kind: api.Delete, Block: block, At: at}
}

// The blocks of the garden: a, b and c under Root, k under a, l under k; w in the Trash, v under w. In b `hi` is seen, as h and i; x stood between them, and isn't seen any more.
var (
	a, b, c, k, l, w, v = dot(1, 1), dot(1, 2), dot(1, 3), dot(1, 4), dot(1, 5), dot(1, 6), dot(1, 7)
	h, x, i             = dot(1, 8), dot(1, 9), dot(1, 10)
)

// gardenTime is the Time of the garden.
const gardenTime = 110

// garden are operations of the actor 1.
func garden() []api.Op {
	return []api.Op{
		made(1, 1, 10, root, "g"), made(1, 2, 20, root, "n", 1, 1), made(1, 3, 30, root, "t", 1, 2),
		made(1, 4, 40, a, "n", 1, 3), made(1, 5, 50, k, "n", 1, 4), made(1, 6, 60, trash, "n", 1, 5), made(1, 7, 70, w, "n", 1, 6),
		put(1, 8, 80, b, none, 'h', 1, 7), put(1, 9, 90, b, h, 'x', 1, 8), put(1, 10, 100, b, x, 'i', 1, 9), taken(1, 11, gardenTime, b, x, 1, 10),
	}
}

// of is a document that is told some operations.
func of(t *testing.T, l ...api.Op) *doc.Doc {
	t.Helper()
	d := doc.New()
	for _, o := range l {
		if _, e := d.Deliver(o); e != api.OK {
			t.Fatalf("Deliver of %v: error %d", o.Id, e)
		}
	}
	return d
}

// grow is a garden, with a clock of the actor 7, which has issued nothing.
func grow(t *testing.T) (*doc.Doc, *clock.Clock) {
	t.Helper()
	return of(t, garden()...), tick(t, 7, 0, 0)
}

// tick is a clock.
func tick(t *testing.T, actor, seq, time int) *clock.Clock {
	t.Helper()
	c, e := clock.New(actor, seq, time)
	if e != api.OK {
		t.Fatalf("New of %d, %d, %d: error %d", actor, seq, time, e)
	}
	return c
}

// call is one of the calls, with what it is handed beside document and clock.
type call func(d *doc.Doc, c *clock.Clock) ([]api.Op, api.Errno)

func putting(block, parent api.Dot, key string) call {
	return func(d *doc.Doc, c *clock.Clock) ([]api.Op, api.Errno) { return edits.Put(d, c, block, parent, key) }
}

func writing(block api.Dot, index int, chars ...int) call {
	return func(d *doc.Doc, c *clock.Clock) ([]api.Op, api.Errno) {
		return edits.Write(d, c, block, index, chars)
	}
}

func erasing(block api.Dot, chars ...api.Dot) call {
	return func(d *doc.Doc, c *clock.Clock) ([]api.Op, api.Errno) { return edits.Erase(d, c, block, chars) }
}

func making(e api.Edit) call {
	return func(d *doc.Doc, c *clock.Clock) ([]api.Op, api.Errno) { return edits.Make(d, c, e) }
}

// past is all that can be seen of a document and a clock.
type past struct {
	version      api.Vector
	ops, waiting []api.Op
	time         int
	shown        string
	thrown       []api.Line
	kids         map[api.Dot][]api.Dot
	texts        map[api.Dot]string
	all          map[api.Dot][]api.Dot
	actor        int
	seq          int
	now          int
}

// seen is what is seen of both.
func seen(d *doc.Doc, c *clock.Clock) past {
	s := d.State()
	p := past{
		version: d.Version(), ops: d.Ops(), waiting: d.Waiting(), time: d.Time(), shown: d.Show(), thrown: s.Lines(trash),
		kids: map[api.Dot][]api.Dot{}, texts: map[api.Dot]string{}, all: map[api.Dot][]api.Dot{},
		actor: c.Actor(), seq: c.Seq(), now: c.Time(),
	}
	for _, b := range append(s.Tree().Blocks(), root, trash) {
		p.kids[b], p.texts[b], p.all[b] = s.Tree().Kids(b), s.Text(b), s.Chars(b).All()
	}
	return p
}

// checkRefused looks that a call is refused with an error, and that nothing is issued and nothing changes.
func checkRefused(t *testing.T, what string, d *doc.Doc, c *clock.Clock, f call, want api.Errno) {
	t.Helper()
	was := seen(d, c)
	got, e := f(d, c)
	if e != want || len(got) != 0 {
		t.Errorf("%s: %v, error %d, not error %d", what, got, e, want)
	}
	if !reflect.DeepEqual(seen(d, c), was) {
		t.Errorf("%s: the refusal changed something", what)
	}
}

// checkNil looks that a call is refused with ErrArg without a document or a clock, and that the one of both that is there doesn't change.
func checkNil(t *testing.T, what string, f call) {
	t.Helper()
	d, c := grow(t)
	was := seen(d, c)
	for _, got := range []func() ([]api.Op, api.Errno){
		func() ([]api.Op, api.Errno) { return f(nil, c) },
		func() ([]api.Op, api.Errno) { return f(d, nil) },
		func() ([]api.Op, api.Errno) { return f(nil, nil) },
	} {
		if l, e := got(); e != api.ErrArg || len(l) != 0 {
			t.Errorf("%s: of nil: %v, error %d", what, l, e)
		}
	}
	if !reflect.DeepEqual(seen(d, c), was) {
		t.Errorf("%s: of nil: something changed", what)
	}
}

// headed are operations with the heads that they get when a row of them is issued.
func headed(d *doc.Doc, c *clock.Clock, l []api.Op) []api.Op {
	deps, time := d.Version(), max(c.Time(), d.Time())
	var out []api.Op
	for n, o := range l {
		o.Id, o.Time, o.Deps = dot(c.Actor(), c.Seq()+1+n), time+1+n, deps
		deps = vector.With(deps, o.Id)
		out = append(out, o)
	}
	return out
}

// same tells whether two rows are the same.
func same(a, b []api.Op) bool { return slices.EqualFunc(a, b, ops.Same) }

// checkIssued looks that a call issues a row of these operations, whose heads don't matter, and that document and clock have them then, and nothing else.
func checkIssued(t *testing.T, what string, d *doc.Doc, c *clock.Clock, f call, l ...api.Op) {
	t.Helper()
	was, want := seen(d, c), headed(d, c, l)
	got, e := f(d, c)
	if e != api.OK || !same(got, want) {
		t.Fatalf("%s: error %d, issued is\n%+v, not\n%+v", what, e, got, want)
	}
	if c.Actor() != was.actor || c.Seq() != was.seq+len(l) || c.Time() != max(was.now, was.time)+len(l) {
		t.Errorf("%s: the clock is %d, %d, %d", what, c.Actor(), c.Seq(), c.Time())
	}
	if !same(d.Ops(), append(was.ops, want...)) || !same(d.Waiting(), was.waiting) {
		t.Errorf("%s: %+v were taken in, %+v wait", what, d.Ops(), d.Waiting())
	}
	for _, o := range got {
		if !ops.Check(o) {
			t.Errorf("%s: %+v may not be", what, o)
		}
	}
}

// text is a text's code points.
func text(s string) []int {
	var out []int
	for _, r := range s {
		out = append(out, int(r))
	}
	return out
}

// checkText looks at a block's text.
func checkText(t *testing.T, d *doc.Doc, block api.Dot, want string) {
	t.Helper()
	if got := d.State().Text(block); got != want {
		t.Errorf("the text of %v is %q, not %q", block, got, want)
	}
}

// checkKids looks at what lies under a block.
func checkKids(t *testing.T, d *doc.Doc, parent api.Dot, want ...api.Dot) {
	t.Helper()
	if got := d.State().Tree().Kids(parent); !slices.Equal(got, want) {
		t.Errorf("the Kids of %v are %v, not %v", parent, got, want)
	}
}

// notThere are dots that are no blocks of the garden: none, Root and Trash, those of its other operations, and some of which there is nothing.
func notThere() []api.Dot {
	return []api.Dot{none, root, trash, h, x, i, dot(1, 11), dot(1, 12), dot(7, 1), dot(9, 9), dot(-1, 1), dot(1, -1), dot(1, 0), dot(0, 1), dot(1<<24, 1), dot(0, -3)}
}
