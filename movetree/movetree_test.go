package movetree_test

import (
	"math"
	"slices"
	"strings"
	"testing"

	"osier/api"
	"osier/dots"
	"osier/movetree"
)

// The calls, with just the signatures that the chapter lists.
var (
	_    func() *movetree.Tree                                                          = movetree.New
	_    func(t *movetree.Tree, id api.Dot, time int, b, p api.Dot, k string) api.Errno = (*movetree.Tree).Move
	_, _ func(t *movetree.Tree, d api.Dot) bool                                         = (*movetree.Tree).There, (*movetree.Tree).Took
	_    func(t *movetree.Tree, b api.Dot) (api.Dot, string, bool)                      = (*movetree.Tree).Parent
	_, _ func(t *movetree.Tree, d api.Dot) []api.Dot                                    = (*movetree.Tree).Kids, (*movetree.Tree).Path
	_    func(t *movetree.Tree) []api.Dot                                               = (*movetree.Tree).Blocks
)

// dot is the dot act.seq.
func dot(act, seq int) api.Dot { return api.Dot{Act: act, Seq: seq} }

// row is a row of dots, of Acts and Seqs by turns.
func row(n ...int) []api.Dot {
	var out []api.Dot
	for i := 0; i+1 < len(n); i += 2 {
		out = append(out, dot(n[i], n[i+1]))
	}
	return out
}

var root, trash = api.Root(), api.Trash()

// Some blocks.
var a, b, c, d, e, f = dot(1, 1), dot(1, 2), dot(1, 3), dot(2, 1), dot(2, 2), dot(3, 1)

// never are the dots that are no move's and no block's.
func never() []api.Dot { return []api.Dot{{}, root, trash} }

// odd are identities that no operation has; a tree takes them all.
func odd() []api.Dot {
	return []api.Dot{
		dot(0, 1), dot(1, 0), dot(0, -3), dot(1, -1), dot(1, -2), dot(-1, 1), dot(-1, 0), dot(api.MaxActor, 1), dot(1, api.MaxSeq+1),
		dot(math.MinInt, math.MinInt), dot(math.MaxInt, math.MaxInt), dot(0, math.MinInt), dot(1<<32, 0), dot(0, 1<<32), dot(0, 1<<32-1), dot(0, 1<<32-2),
	}
}

// move is a move as it is told.
type move struct {
	id            api.Dot
	time          int
	block, parent api.Dot
	key           string
}

// made is the move by which a block is made.
func made(time int, block, parent api.Dot, key string) move {
	return move{id: block, time: time, block: block, parent: parent, key: key}
}

// moved is a move of a block that was made by another one.
func moved(act, seq, time int, block, parent api.Dot, key string) move {
	return move{id: dot(act, seq), time: time, block: block, parent: parent, key: key}
}

// slow is what moves come to, told by the chapter's words: each question does all of them from the beginning.
type slow struct{ moves []move }

// tell tells of a move, or what is wrong.
func (s *slow) tell(m move) api.Errno {
	switch {
	case slices.Contains(never(), m.id), slices.Contains(never(), m.block):
		return api.ErrArg
	case slices.ContainsFunc(s.moves, func(o move) bool { return o.id == m.id }):
		return api.ErrTwice
	}
	s.moves = append(s.moves, m)
	return api.OK
}

// come is what comes of moves: for each block the move that says where it lies, and which ones took effect.
type come struct {
	last map[api.Dot]move
	took map[api.Dot]bool
}

// come does all moves, one by one.
func (s *slow) come() come {
	l := slices.Clone(s.moves)
	slices.SortFunc(l, func(m, o move) int {
		if m.time < o.time || m.time == o.time && dots.Less(m.id, o.id) {
			return -1
		}
		return 1
	})
	x := come{last: map[api.Dot]move{}, took: map[api.Dot]bool{}}
	for _, m := range l {
		_, there := x.last[m.block]
		_, under := x.last[m.parent]
		if m.parent != root && m.parent != trash && !under || !there && m.block != m.id {
			continue
		}
		if m.block == m.parent || slices.Contains(x.path(m.parent), m.block) {
			continue
		}
		x.last[m.block], x.took[m.id] = m, true
	}
	return x
}

// path are all that are above a block.
func (x come) path(b api.Dot) []api.Dot {
	var out []api.Dot
	for m, there := x.last[b]; there; m, there = x.last[m.parent] {
		out = append(out, m.parent)
	}
	return out
}

// blocks are all blocks, in order.
func (x come) blocks() []api.Dot {
	var out []api.Dot
	for b := range x.last {
		out = append(out, b)
	}
	return dots.Rising(out)
}

// kids are the blocks under one, in order.
func (x come) kids(p api.Dot) []api.Dot {
	out := slices.DeleteFunc(x.blocks(), func(b api.Dot) bool { return x.last[b].parent != p })
	slices.SortStableFunc(out, func(b, o api.Dot) int { return strings.Compare(x.last[b].key, x.last[o].key) })
	return out
}

// check looks at all that a tree tells.
func check(t *testing.T, what string, x *movetree.Tree, s *slow) {
	t.Helper()
	want := s.come()
	if got := x.Blocks(); !slices.Equal(got, want.blocks()) {
		t.Fatalf("%s: Blocks are %v, not %v", what, got, want.blocks())
	}
	all := slices.Concat(never(), odd(), row(77, 7))
	for _, m := range s.moves {
		all = append(all, m.id, m.block, m.parent)
	}
	for _, b := range dots.Rising(all) {
		checkBlock(t, what, x, b, want)
		if got := x.Took(b); got != want.took[b] {
			t.Fatalf("%s: Took of %v is %v", what, b, got)
		}
		if got := x.Kids(b); !slices.Equal(got, want.kids(b)) {
			t.Fatalf("%s: Kids of %v are %v, not %v", what, b, got, want.kids(b))
		}
	}
}

// checkBlock looks at where a block lies, if it is there.
func checkBlock(t *testing.T, what string, x *movetree.Tree, b api.Dot, want come) {
	t.Helper()
	m, there := want.last[b]
	if got := x.There(b); got != there {
		t.Fatalf("%s: There of %v is %v", what, b, got)
	}
	if p, key, ok := x.Parent(b); p != m.parent || key != m.key || ok != there {
		t.Fatalf("%s: Parent of %v is %v, %q, %v, not %v, %q, %v", what, b, p, key, ok, m.parent, m.key, there)
	}
	if got := x.Path(b); !slices.Equal(got, want.path(b)) {
		t.Fatalf("%s: Path of %v is %v, not %v", what, b, got, want.path(b))
	}
}

// tell tells a tree of a move, and what it is held against, which must answer the same.
func tell(t *testing.T, x *movetree.Tree, s *slow, m move) {
	t.Helper()
	want := s.tell(m)
	if e := x.Move(m.id, m.time, m.block, m.parent, m.key); e != want {
		t.Fatalf("Move of %+v: error %d, not %d", m, e, want)
	}
}

// of is a tree that is told of moves in this order, all of which are new, and what it is held against.
func of(t *testing.T, l ...move) (*movetree.Tree, *slow) {
	t.Helper()
	x, s := movetree.New(), &slow{}
	for _, m := range l {
		if e := x.Move(m.id, m.time, m.block, m.parent, m.key); e != api.OK || s.tell(m) != api.OK {
			t.Fatalf("Move of %+v: error %d", m, e)
		}
	}
	return x, s
}

// orders are all orders of a row.
func orders(l []move) [][]move {
	if len(l) == 0 {
		return [][]move{nil}
	}
	var out [][]move
	for i := range l {
		for _, rest := range orders(slices.Concat(l[:i], l[i+1:])) {
			out = append(out, append([]move{l[i]}, rest...))
		}
	}
	return out
}

// checkKids looks at the blocks under one.
func checkKids(t *testing.T, x *movetree.Tree, p api.Dot, want ...api.Dot) {
	t.Helper()
	if got := x.Kids(p); !slices.Equal(got, want) {
		t.Errorf("Kids of %v are %v, not %v", p, got, want)
	}
}

// checkPath looks at all that are above a block; nothing: it isn't there.
func checkPath(t *testing.T, x *movetree.Tree, b api.Dot, want ...api.Dot) {
	t.Helper()
	if got := x.Path(b); !slices.Equal(got, want) || x.There(b) != (len(want) > 0) {
		t.Errorf("Path of %v is %v, not %v, There is %v", b, got, want, x.There(b))
	}
}

// checkTook looks at whether moves took effect.
func checkTook(t *testing.T, x *movetree.Tree, want bool, ids ...api.Dot) {
	t.Helper()
	for _, id := range ids {
		if x.Took(id) != want {
			t.Errorf("Took of %v is %v", id, !want)
		}
	}
}
