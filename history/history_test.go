package history_test

import (
	"cmp"
	"reflect"
	"slices"
	"testing"

	"osier/api"
	"osier/history"
	"osier/ops"
	"osier/view"
)

// The calls, with just the signatures that the chapter lists, and what a change is.
var (
	_ func(l []api.Op, v api.Vector) ([]api.Op, api.Errno)    = history.Checkout
	_ func(l []api.Op, v api.Vector) (*view.State, api.Errno) = history.At
	_ func(a, b []api.Op) []api.Op                            = history.Union
	_ func(o api.Op) api.Vector                               = history.Saw
	_ func(a, b *view.State) []history.Change                 = history.Diff

	_ = history.Change(struct {
		Kind     int
		Block    api.Dot
		Was, Now string
	}{})
)

// dot is the dot act.seq.
func dot(act, seq int) api.Dot { return api.Dot{Act: act, Seq: seq} }

var none, root, trash = api.Dot{}, api.Root(), api.Trash()

// vec is a vector of Acts and Seqs, by turns.
func vec(n ...int) api.Vector {
	var v api.Vector
	for i := 0; i+1 < len(n); i += 2 {
		v = append(v, dot(n[i], n[i+1]))
	}
	return v
}

// made is the making of a block under Root, with Deps of Acts and Seqs, by turns.
func made(act, seq, time int, deps ...int) api.Op {
	return moved(act, seq, time, dot(act, seq), root, deps...)
}

// moved is a move of a block.
func moved(act, seq, time int, block, parent api.Dot, deps ...int) api.Op {
	return api.Op{Id: dot(act, seq), Time: time, Deps: vec(deps...), Kind: api.Move, Block: block, Parent: parent, Key: "n"}
}

// put is a character that is put into a block, at the right side of another one.
func put(act, seq, time int, block, at api.Dot, char int, deps ...int) api.Op {
	return api.Op{Id: dot(act, seq), Time: time, Deps: vec(deps...), Kind: api.Insert, Block: block, At: at, Side: api.Right, Char: char}
}

// taken is a character that is taken out of a block's sight.
func taken(act, seq, time int, block, at api.Dot, deps ...int) api.Op {
	return api.Op{Id: dot(act, seq), Time: time, Deps: vec(deps...), Kind: api.Delete, Block: block, At: at}
}

// keyed is an operation with another Key, so that it can be told from those of the same Id.
func keyed(o api.Op, key string) api.Op {
	o.Key = key
	return o
}

// wrongOf are operations that may not be, each for one thing in which it isn't as a move that may; all have its Id.
func wrongOf(o api.Op) []api.Op {
	change := func(f func(o *api.Op)) api.Op {
		p := o
		f(&p)
		return p
	}
	return []api.Op{
		change(func(o *api.Op) { o.Time = 0 }),
		change(func(o *api.Op) { o.Time = api.MaxTime + 1 }),
		change(func(o *api.Op) { o.Key = "" }),
		change(func(o *api.Op) { o.Parent = o.Block }),
		change(func(o *api.Op) { o.Parent = dot(99, 9) }),
		change(func(o *api.Op) { o.Block = dot(99, 9) }),
		change(func(o *api.Op) { o.Kind = 0 }),
		change(func(o *api.Op) { o.Char = 1 }),
		change(func(o *api.Op) { o.Deps = append(slices.Clone(o.Deps), dot(98, 0)) }),
		change(func(o *api.Op) { o.Deps = vec(o.Id.Act, o.Id.Seq) }),
	}
}

// noVectors are vectors that may not be.
func noVectors() []api.Vector {
	return []api.Vector{
		vec(1, 0), vec(1, -1), vec(-1, 1), vec(0, 0), {root}, {trash}, vec(api.MaxActor, 1), vec(1, api.MaxSeq+1), vec(1, 1<<32+1), vec(1<<32+1, 1),
		vec(1, 1, 1, 1), vec(1, 1, 1, 2), vec(1, 2, 1, 1), vec(2, 1, 1, 1), vec(1, 1, 2, 0), vec(1, 0, 2, 1), vec(1, 1, 3, 1, 2, 1),
	}
}

// byTime is below 0, 0 or above 0, as one operation comes ahead of another one, with it or behind it.
func byTime(a, b api.Op) int { return cmp.Or(cmp.Compare(a.Time, b.Time), byDot(a.Id, b.Id)) }

// byDot is below 0, 0 or above 0, as one dot comes ahead of another one, is it or comes behind it.
func byDot(a, b api.Dot) int { return cmp.Or(cmp.Compare(a.Act, b.Act), cmp.Compare(a.Seq, b.Seq)) }

// has tells whether a vector has a dot.
func has(v api.Vector, d api.Dot) bool {
	return slices.ContainsFunc(v, func(x api.Dot) bool { return x.Act == d.Act && x.Seq >= d.Seq })
}

// is tells whether one of an Id is in a row.
func is(l []api.Op, id api.Dot) bool {
	return slices.ContainsFunc(l, func(o api.Op) bool { return o.Id == id })
}

// same tells whether two rows are the same.
func same(a, b []api.Op) bool { return slices.EqualFunc(a, b, ops.Same) }

// ids are the identities of a row.
func ids(l []api.Op) []api.Dot {
	var out []api.Dot
	for _, o := range l {
		out = append(out, o.Id)
	}
	return out
}

// orders are all orders of a row.
func orders(l []api.Op) [][]api.Op {
	if len(l) == 0 {
		return [][]api.Op{nil}
	}
	var out [][]api.Op
	for i, o := range l {
		for _, rest := range orders(slices.Delete(slices.Clone(l), i, i+1)) {
			out = append(out, append([]api.Op{o}, rest...))
		}
	}
	return out
}

// roomy is a row, in memory of its own, with room behind it and behind all Deps that is full of others and isn't to be used.
func roomy(l []api.Op) []api.Op {
	out := append(slices.Clone(l), made(77, 1, 7), made(77, 2, 7, 77, 1), made(77, 3, 7, 77, 2))
	for i, o := range out {
		out[i].Deps = roomyDots(o.Deps)
	}
	return out[:len(l)]
}

// roomyDots is a row of dots, likewise.
func roomyDots(v api.Vector) api.Vector {
	return append(slices.Clone(v), vec(88, 8, 89, 8)...)[:len(v)]
}

// whole is a row with the room behind it, and behind all Deps.
func whole(l []api.Op) []api.Op {
	out := slices.Clone(l[:cap(l)])
	for i, o := range out {
		out[i].Deps = o.Deps[:cap(o.Deps)]
	}
	return out
}

// copied is that in memory of its own.
func copied(l []api.Op) []api.Op {
	out := whole(l)
	for i, o := range out {
		out[i].Deps = slices.Clone(o.Deps)
	}
	return out
}

// spoil changes all of a row, its Deps, and the room behind them.
func spoil(l []api.Op) {
	l = l[:cap(l)]
	for i, o := range l {
		spoilDots(o.Deps)
		l[i] = made(-5, i, -7)
	}
}

// spoilDots changes all of a row of dots, and the room behind it.
func spoilDots(v api.Vector) {
	v = v[:cap(v)]
	for i := range v {
		v[i] = dot(-99, i)
	}
}

// checkNew looks that what is answered is new memory: that of one answer isn't that of another one, nor of what was handed in, and the Deps of one operation aren't those of another one.
func checkNew(t *testing.T, what string, ask func() []api.Op, want []api.Op, handed ...[]api.Op) {
	t.Helper()
	var was [][]api.Op
	for _, l := range handed {
		was = append(was, copied(l))
	}
	got, again := ask(), ask()
	if !same(got, want) {
		t.Fatalf("%s is %v, not %v", what, ids(got), ids(want))
	}
	spoil(got)
	for i, l := range handed {
		if !reflect.DeepEqual(whole(l), was[i]) {
			t.Fatalf("%s: what was handed in is changed", what)
		}
		spoil(l)
	}
	if !same(again, want) {
		t.Fatalf("%s: what is answered shares memory with another answer, or with what was handed in", what)
	}
	for i := range again {
		spoilDots(again[i].Deps)
		if !same(again[i+1:], want[i+1:]) {
			t.Fatalf("%s: Deps share memory", what)
		}
	}
}

// checkState looks at two states, whether they are the same in all that they tell of the dots of some operations.
func checkState(t *testing.T, what string, got, want *view.State, l []api.Op) {
	t.Helper()
	if got == nil {
		t.Fatalf("%s: no state", what)
	}
	if !slices.Equal(got.Lines(root), want.Lines(root)) || !slices.Equal(got.Lines(trash), want.Lines(trash)) {
		t.Fatalf("%s: the lines are %v and %v, not %v and %v", what, got.Lines(root), got.Lines(trash), want.Lines(root), want.Lines(trash))
	}
	if !slices.Equal(got.Tree().Blocks(), want.Tree().Blocks()) {
		t.Fatalf("%s: the blocks are %v, not %v", what, got.Tree().Blocks(), want.Tree().Blocks())
	}
	for _, o := range l {
		for _, x := range []api.Dot{o.Id, o.Block} {
			if (got.Chars(x) == nil) != (want.Chars(x) == nil) || !slices.Equal(got.Chars(x).All(), want.Chars(x).All()) || got.Text(x) != want.Text(x) {
				t.Fatalf("%s: the text of %v is %q, not %q", what, x, got.Text(x), want.Text(x))
			}
			p, key, there := got.Tree().Parent(x)
			if q, k, is := want.Tree().Parent(x); p != q || key != k || there != is || got.Tree().Took(x) != want.Tree().Took(x) {
				t.Fatalf("%s: %v lies under %v, %q, %v, not under %v, %q, %v", what, x, p, key, there, q, k, is)
			}
		}
	}
}

// P16.1, P16.3: the chapter's examples.
func TestExamples(t *testing.T) {
	l := []api.Op{made(1, 1, 1), put(1, 2, 2, dot(1, 1), none, 'x', 1, 1), taken(1, 3, 3, dot(1, 1), dot(1, 2), 1, 2)}
	checkCheckout(t, l, vec(1, 2), l[:2]...)
	checkPast(t, l, vec(1, 4))
	checkDiff(t, "written", view.Of(l[:1]), view.Of(l[:2]), history.Change{Kind: history.Written, Block: dot(1, 1), Was: "", Now: "x"})
}

// P16.3: the kinds, one by one, constants that are of any integer's type.
func TestKinds(t *testing.T) {
	const made, gone, moved, written byte = history.Made, history.Gone, history.Moved, history.Written
	if got := [...]byte{made, gone, moved, written}; got != [...]byte{1, 2, 3, 4} {
		t.Errorf("the kinds are %v", got)
	}
}
