package view_test

import (
	"math"
	"slices"
	"testing"

	"osier/api"
	"osier/view"
)

// P12.1, P12.2: the chapter's example.
func TestExample(t *testing.T) {
	l := []api.Op{made(1, a, root, "n"), after(put(dot(1, 2), a, none, 'x'), 2, 1, 1)}
	s := view.New()
	for _, o := range l {
		s.Apply(o)
	}
	checkLines(t, s, root, api.Line{Block: a, Text: "x"})
	if got := view.View(l); got != "- x\n" {
		t.Errorf("it is shown as %q", got)
	}
	thrown := after(moved(dot(1, 3), 0, a, trash, "n"), 3, 1, 2)
	s.Apply(thrown)
	checkLines(t, s, root)
	checkLines(t, s, trash, api.Line{Block: a, Text: "x"})
	if got := view.View(append(l, thrown)); got != "" {
		t.Errorf("thrown away it is shown as %q", got)
	}
}

// P12.1: New has neither blocks nor texts, and each is its own; so has a state that is just declared.
func TestNew(t *testing.T) {
	s, m := of()
	check(t, "new", s, m)
	if n := s.Tree().Blocks(); s.Tree() == nil || len(n) != 0 {
		t.Errorf("the blocks of none are %v", n)
	}
	other := view.New()
	other.Apply(made(1, a, root, "n"))
	other.Apply(put(b, a, none, 'x'))
	check(t, "beside another one", s, m)
	var declared view.State
	check(t, "declared", &declared, m)
	apply(&declared, m, made(1, a, root, "n"), put(b, a, none, 'x'), taken(c, d, b))
	check(t, "declared, and told", &declared, m)
}

// P12.1: a Move moves in the tree, by the operation's Id, Time, Block, Parent and Key.
func TestMove(t *testing.T) {
	s, m := of(made(1, a, root, "n"), made(2, c, root, "m"), made(3, d, trash, "n"))
	checkLines(t, s, root, api.Line{Block: c}, api.Line{Block: a})
	checkLines(t, s, trash, api.Line{Block: d})
	apply(s, m, moved(dot(9, 1), 4, c, a, "k"))
	checkLines(t, s, root, api.Line{Block: a}, api.Line{Block: c, Depth: 1})
	if p, key, there := s.Tree().Parent(c); p != a || key != "k" || !there || !s.Tree().Took(dot(9, 1)) {
		t.Errorf("Parent is %v, %q, %v", p, key, there)
	}
	check(t, "moved", s, m)
	apply(s, m, moved(dot(8, 1), 3, c, trash, "z"))
	checkLines(t, s, trash, api.Line{Block: d})
	apply(s, m, moved(dot(8, 2), 4, c, root, "y"), moved(dot(9, 2), 4, c, trash, "a"))
	checkLines(t, s, trash, api.Line{Block: c}, api.Line{Block: d})
	check(t, "by time, and by Id", s, m)
}

// P12.1: a Move without an effect is a move all the same, which takes effect once another one that comes later is done ahead of it.
func TestMoveWaits(t *testing.T) {
	s, m := of(made(3, a, b, "n"), moved(dot(9, 1), 4, a, trash, "n"))
	check(t, "without an effect", s, m)
	checkLines(t, s, trash)
	apply(s, m, made(2, b, root, "n"))
	check(t, "with it", s, m)
	checkLines(t, s, root, api.Line{Block: b})
	checkLines(t, s, trash, api.Line{Block: a})
}

// P12.1: an Insert puts a character in, by the operation's Id, At, Side and Char.
func TestInsert(t *testing.T) {
	s, m := of(made(1, a, root, "n"), put(dot(1, 2), a, none, 'b'))
	checkText(t, s, a, "b")
	left := put(dot(1, 3), a, dot(1, 2), 'a')
	left.Side = api.Left
	apply(s, m, left, put(dot(1, 4), a, dot(1, 2), 'd'), put(dot(0, 5), a, dot(1, 2), 'c'))
	checkText(t, s, a, "abcd")
	if got := s.Chars(a).All(); !slices.Equal(got, []api.Dot{dot(1, 3), dot(1, 2), dot(0, 5), dot(1, 4)}) {
		t.Errorf("the characters are %v", got)
	}
	checkLines(t, s, root, api.Line{Block: a, Text: "abcd"})
	check(t, "put in", s, m)
}

// P12.1: a Delete takes a character out of sight, by the operation's At; that may come twice.
func TestDelete(t *testing.T) {
	s, m := of(made(1, a, root, "n"), put(dot(1, 2), a, none, 'x'), put(dot(1, 3), a, dot(1, 2), 'y'), taken(dot(1, 4), a, dot(1, 2)))
	checkText(t, s, a, "y")
	if n := s.Chars(a).Size(); n != 2 {
		t.Errorf("there are %d characters", n)
	}
	check(t, "one", s, m)
	apply(s, m, taken(dot(2, 1), a, dot(1, 2)))
	check(t, "twice", s, m)
	apply(s, m, taken(dot(2, 2), a, dot(1, 3)), put(dot(2, 3), a, dot(1, 2), 'z'))
	checkText(t, s, a, "z")
	check(t, "all, and one behind them", s, m)
}

// P12.1: each block has a text of its own: one identity may be that of a character in several.
func TestApart(t *testing.T) {
	s, m := of(put(dot(1, 2), a, none, 'x'), put(dot(1, 2), c, none, 'y'), put(dot(1, 3), c, dot(1, 2), 'z'), taken(dot(9, 1), a, dot(1, 2)))
	checkText(t, s, a, "")
	checkText(t, s, c, "yz")
	apply(s, m, put(dot(1, 4), a, dot(1, 3), '!'))
	checkText(t, s, a, "")
	check(t, "apart", s, m)
}

// places are dots of which a text may be: blocks, and whatever else.
func places() []api.Dot {
	return []api.Dot{a, d, dot(99, 9), none, root, trash, dot(-1, -1), dot(math.MinInt, math.MaxInt)}
}

// P12.1: a text that isn't there is made, empty, ahead of an Insert or a Delete, also where that one is refused then, and whether there is such a block or not.
func TestTextIsMade(t *testing.T) {
	for _, x := range places() {
		for _, o := range append(refusedInserts(x), taken(dot(1, 2), x, dot(1, 1)), taken(dot(1, 2), x, none), taken(none, x, dot(7, 7))) {
			s, m := of(made(1, a, root, "n"))
			checkNoText(t, s, x)
			apply(s, m, o)
			checkText(t, s, x, "")
			if n := s.Chars(x); n == nil || n.Size() != 0 {
				t.Errorf("behind %+v the text is %v", o, n)
			}
			check(t, "refused", s, m)
			apply(s, m, put(dot(5, 5), x, none, 'x'))
			checkText(t, s, x, "x")
			check(t, "and then written", s, m)
		}
		s, m := of(put(dot(1, 2), x, none, 'y'))
		checkText(t, s, x, "y")
		check(t, "written at once", s, m)
	}
}

// refusedInserts are Inserts that are refused, of a text without characters.
func refusedInserts(x api.Dot) []api.Op {
	var out []api.Op
	for _, side := range []int{-1, 2, math.MinInt, math.MaxInt} {
		o := put(dot(1, 2), x, none, 'x')
		o.Side = side
		out = append(out, o)
	}
	left := put(dot(1, 2), x, none, 'x')
	left.Side = api.Left
	return append(out, left, put(none, x, none, 'x'), put(dot(1, 2), x, dot(1, 1), 'x'), put(dot(1, 2), x, dot(1, 2), 'x'))
}

// P12.1: errors of texts change nothing.
func TestRefusedText(t *testing.T) {
	s, m := of(made(1, a, root, "n"), put(dot(1, 2), a, none, 'x'), put(dot(1, 3), a, dot(1, 2), 'y'))
	again := put(dot(1, 2), a, dot(1, 3), 'z')
	for _, o := range append(refusedInserts(a)[:6], again, put(dot(1, 3), a, none, 'z'), put(dot(4, 1), a, dot(4, 1), 'z'), put(dot(4, 1), a, dot(9, 9), 'z'), put(dot(4, 1), a, root, 'z'),
		taken(dot(4, 1), a, none), taken(dot(4, 1), a, dot(1, 1)), taken(dot(1, 2), a, dot(9, 9)), taken(dot(4, 1), a, trash)) {
		s.Apply(o)
		check(t, "refused", s, m)
		checkText(t, s, a, "xy")
	}
	apply(s, m, taken(dot(1, 4), a, dot(1, 2)))
	s.Apply(put(dot(1, 2), a, none, 'x'))
	checkText(t, s, a, "y")
	check(t, "put in again, once it is out of sight", s, m)
}

// P12.1: errors of the tree change nothing, and no text is made.
func TestRefusedMove(t *testing.T) {
	s, m := of(made(1, a, root, "n"), made(2, c, a, "n"), moved(dot(9, 1), 5, c, root, "m"))
	for _, o := range []api.Op{
		made(9, none, root, "n"), made(9, root, a, "n"), made(9, trash, root, "n"),
		moved(none, 9, a, trash, "n"), moved(root, 9, a, trash, "n"), moved(trash, 9, a, trash, "n"),
		moved(dot(7, 1), 9, none, trash, "n"), moved(dot(7, 1), 9, root, trash, "n"), moved(dot(7, 1), 9, trash, root, "n"),
		moved(dot(9, 1), 9, c, trash, "n"), moved(dot(9, 1), 1, a, trash, "n"), made(9, a, trash, "z"), moved(a, 9, c, trash, "n"),
	} {
		s.Apply(o)
		check(t, "refused", s, m)
		checkLines(t, s, root, api.Line{Block: c}, api.Line{Block: a})
	}
	apply(s, m, moved(dot(7, 1), 9, a, trash, "n"))
	check(t, "an Id that was refused", s, m)
	checkLines(t, s, trash, api.Line{Block: a})
}

// P12.1: of another Kind nothing, not even a text that is made.
func TestOtherKinds(t *testing.T) {
	s, m := of(made(1, a, root, "n"), put(dot(1, 2), a, none, 'x'))
	for _, kind := range []int{0, -1, 4, 5, 1 << 8, 1<<8 + 1, 1<<32 + 1, 1<<32 + 2, 1<<32 + 3, math.MinInt, math.MaxInt} {
		for _, o := range []api.Op{moved(dot(7, 1), 9, a, trash, "n"), made(9, d, root, "n"), put(dot(7, 2), a, none, 'y'), put(dot(7, 2), d, none, 'y'), taken(dot(7, 3), a, dot(1, 2)), taken(dot(7, 3), d, dot(1, 2)), {}} {
			o.Kind = kind
			s.Apply(o)
			check(t, "of another Kind", s, m)
			checkNoText(t, s, d)
			checkText(t, s, a, "x")
		}
	}
}

// P12.1: Apply asks tree and texts alone: it isn't held against what may be, or what is had, and what is another Kind's says nothing.
func TestAppliedUnasked(t *testing.T) {
	s, m := of(moved(dot(-4, -4), -7, dot(-4, -4), root, ""), moved(dot(0, 1<<30+1), math.MaxInt, dot(-4, -4), trash, "not a key!"))
	checkLines(t, s, trash, api.Line{Block: dot(-4, -4)})
	apply(s, m, put(dot(-9, 0), dot(-4, -4), none, -1), put(dot(1<<40, 3), dot(-4, -4), dot(-9, 0), api.MaxChar+1), put(dot(3, 0), dot(-4, -4), dot(-9, 0), 55296))
	checkText(t, s, dot(-4, -4), "\ufffd\ufffd\ufffd")
	more := api.Op{Id: dot(5, 1), Time: 3, Deps: vec(2, 0, 1, -1), Kind: api.Move, Block: dot(5, 1), Parent: root, Key: "n", At: dot(4, 4), Side: 7, Char: -3}
	apply(s, m, more)
	more.Id, more.Kind, more.At, more.Side, more.Char = dot(5, 2), api.Insert, none, api.Right, 'm'
	apply(s, m, more)
	more.Id, more.Kind, more.At, more.Side = dot(5, 3), api.Delete, dot(-9, 0), 9
	more.Block = dot(-4, -4)
	apply(s, m, more)
	checkText(t, s, dot(5, 1), "m")
	checkText(t, s, dot(-4, -4), "\ufffd\ufffd")
	check(t, "unasked", s, m)
}

// P12.1: an operation that is handed in isn't changed.
func TestAppliedUnchanged(t *testing.T) {
	for _, o := range []api.Op{made(1, a, root, "n"), put(b, a, none, 'x'), taken(b, a, none)} {
		deps := append(vec(1, 1, 2, 2), vec(3, 3)...)
		o.Deps = deps[:2]
		view.New().Apply(o)
		if !slices.Equal(deps, vec(1, 1, 2, 2, 3, 3)) {
			t.Errorf("Deps are %v", deps)
		}
	}
}
