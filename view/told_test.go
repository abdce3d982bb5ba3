package view_test

import (
	"slices"
	"testing"

	"osier/api"
	"osier/view"
)

// hedge are operations of which blocks and texts come about: under Root c `cc`, with b under it, and then a `x`; in the trash d `\`, which has a line end behind it.
func hedge() []api.Op {
	return []api.Op{
		made(1, a, root, "n"), made(2, b, a, "n"), made(3, c, root, "m"), made(4, d, trash, "n"), moved(dot(4, 1), 5, b, c, "n"),
		put(dot(5, 1), a, none, 'x'), put(dot(5, 2), c, none, 'c'), put(dot(5, 3), c, dot(5, 2), 'c'), put(dot(5, 4), d, none, '\\'), put(dot(5, 5), d, dot(5, 4), '\n'),
		put(dot(5, 6), a, dot(5, 1), '!'), taken(dot(5, 7), a, dot(5, 6)), put(dot(5, 8), dot(8, 8), none, '8'),
	}
}

// P12.2: Tree, Chars, Text and Lines, of a state with blocks and texts.
func TestTold(t *testing.T) {
	s, m := of(hedge()...)
	check(t, "told", s, m)
	if got := s.Tree().Blocks(); !slices.Equal(got, []api.Dot{a, b, c, d}) {
		t.Errorf("the blocks are %v", got)
	}
	for x, want := range map[api.Dot]string{a: "x", c: "cc", d: "\\\n", dot(8, 8): "8"} {
		checkText(t, s, x, want)
	}
	if got := s.Chars(a).All(); !slices.Equal(got, []api.Dot{dot(5, 1), dot(5, 6)}) {
		t.Errorf("the characters of %v are %v", a, got)
	}
	checkLines(t, s, root, api.Line{Block: c, Text: "cc"}, api.Line{Block: b, Depth: 1}, api.Line{Block: a, Text: "x"})
	checkLines(t, s, trash, api.Line{Block: d, Text: "\\\n"})
	checkLines(t, s, c, api.Line{Block: b})
	checkLines(t, s, a)
	checkLines(t, s, dot(8, 8))
}

// P12.2: of dots that have no text: nil, and empty; asking makes none.
func TestNoText(t *testing.T) {
	s, m := of(hedge()...)
	for range 2 {
		for _, x := range []api.Dot{b, none, root, trash, dot(9, 9), dot(5, 1), dot(-1, 0)} {
			checkNoText(t, s, x)
			s.Lines(x)
		}
	}
	check(t, "asked", s, m)
}

// P12.2: of a state without blocks, with texts; and without texts, with blocks.
func TestOneAlone(t *testing.T) {
	s, m := of(put(dot(5, 1), a, none, 'x'))
	check(t, "no blocks", s, m)
	checkText(t, s, a, "x")
	for _, top := range []api.Dot{root, trash, a, none} {
		checkLines(t, s, top)
	}
	apply(s, m, made(1, a, root, "n"))
	checkLines(t, s, root, api.Line{Block: a, Text: "x"})
	s, m = of(made(1, a, root, "n"), made(2, b, a, "n"))
	check(t, "no texts", s, m)
	checkNoText(t, s, a)
	checkLines(t, s, root, api.Line{Block: a}, api.Line{Block: b, Depth: 1})
}

// P12.2: Tree is the state's own: it is one all the time, changes with the state, and the state with it.
func TestTreeIsItsOwn(t *testing.T) {
	s, m := of()
	x := s.Tree()
	apply(s, m, made(1, a, root, "n"), made(2, b, a, "n"))
	if !slices.Equal(x.Blocks(), []api.Dot{a, b}) || s.Tree() != x {
		t.Errorf("the tree of before has %v", x.Blocks())
	}
	if e := x.Move(dot(9, 1), 3, b, trash, "n"); e != api.OK {
		t.Fatalf("Move: error %d", e)
	}
	checkLines(t, s, trash, api.Line{Block: b})
	m.apply(moved(dot(9, 1), 3, b, trash, "n"))
	check(t, "moved in the tree", s, m)
	apply(s, m, moved(dot(9, 1), 4, a, trash, "n"))
	check(t, "an Id that the tree has", s, m)
}

// P12.2: Chars are the state's own: one text all the time, that changes with the state, and the state with it.
func TestCharsAreItsOwn(t *testing.T) {
	s, m := of(made(1, a, root, "n"), taken(dot(5, 9), a, dot(5, 1)))
	x := s.Chars(a)
	if x == nil {
		t.Fatal("there is no text")
	}
	apply(s, m, put(dot(5, 1), a, none, 'x'), put(dot(5, 2), a, dot(5, 1), 'y'), taken(dot(5, 3), a, dot(5, 1)), put(dot(5, 4), c, none, 'c'))
	if x.String() != "y" || x.Size() != 2 || s.Chars(a) != x || s.Chars(c) == x {
		t.Errorf("the text of before is %q", x)
	}
	if e := x.Insert(dot(6, 1), dot(5, 2), api.Right, 'z'); e != api.OK {
		t.Fatalf("Insert: error %d", e)
	}
	checkLines(t, s, root, api.Line{Block: a, Text: "yz"})
	m.apply(put(dot(6, 1), a, dot(5, 2), 'z'))
	check(t, "written in the text", s, m)
}

// P12.2: what Lines tells is new memory: it doesn't change with the state, nor the state with it.
func TestLinesNewMemory(t *testing.T) {
	s, m := of(hedge()...)
	first, second := s.Lines(root), s.Lines(root)
	want := slices.Clone(second)
	for i := range first {
		first[i] = api.Line{Block: d, Depth: -1, Text: "changed"}
	}
	_ = append(first[:1], first...)
	check(t, "an answer was changed", s, m)
	apply(s, m, moved(dot(9, 1), 9, c, trash, "n"), taken(dot(9, 2), a, dot(5, 1)))
	if !slices.Equal(second, want) {
		t.Errorf("an answer is %v behind changes, and was %v", second, want)
	}
	check(t, "behind changes", s, m)
}

// P12.1, P12.2: of nil: nil, empty, nothing; Apply does nothing.
func TestNil(t *testing.T) {
	var s *view.State
	for _, o := range append(hedge(), api.Op{}, api.Op{Kind: 9}) {
		s.Apply(o)
		if s != nil || s.Tree() != nil {
			t.Errorf("the tree of nil is %v", s.Tree())
		}
		for _, x := range []api.Dot{a, d, none, root, trash, dot(9, 9)} {
			checkNoText(t, s, x)
			checkLines(t, s, x)
		}
	}
}

// Ways: the tree's methods are the state's.
func TestPromoted(t *testing.T) {
	s, _ := of(hedge()...)
	var x interface {
		Move(id api.Dot, time int, block, parent api.Dot, key string) api.Errno
		There(b api.Dot) bool
		Parent(b api.Dot) (api.Dot, string, bool)
		Kids(p api.Dot) []api.Dot
		Path(b api.Dot) []api.Dot
		Took(id api.Dot) bool
		Blocks() []api.Dot
	} = s
	if !slices.Equal(x.Kids(root), []api.Dot{c, a}) || !slices.Equal(x.Path(b), []api.Dot{c, root}) || !x.There(d) || !x.Took(dot(4, 1)) || len(x.Blocks()) != 4 {
		t.Errorf("a state's blocks are %v", x.Blocks())
	}
	if e := x.Move(dot(9, 1), 9, c, trash, "n"); e != api.OK || !slices.Equal(s.Tree().Path(b), []api.Dot{c, trash}) {
		t.Errorf("Move: error %d, and the way up is %v", e, s.Tree().Path(b))
	}
}
