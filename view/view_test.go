package view_test

import (
	"cmp"
	"math"
	"slices"
	"strings"
	"testing"

	"osier/api"
	"osier/fugue"
	"osier/movetree"
	"osier/view"
)

// The calls, with just the signatures that the chapter lists.
var (
	_ func() *view.State                              = view.New
	_ func(s *view.State, o api.Op)                   = (*view.State).Apply
	_ func(s *view.State) *movetree.Tree              = (*view.State).Tree
	_ func(s *view.State, b api.Dot) *fugue.Text      = (*view.State).Chars
	_ func(s *view.State, b api.Dot) string           = (*view.State).Text
	_ func(s *view.State, top api.Dot) (l []api.Line) = (*view.State).Lines
	_ func(l []api.Op) *view.State                    = view.Of
	_ func(l []api.Op) string                         = view.View
)

// dot is the dot act.seq.
func dot(act, seq int) api.Dot { return api.Dot{Act: act, Seq: seq} }

var none, root, trash = api.Dot{}, api.Root(), api.Trash()

// Some blocks.
var a, b, c, d = dot(1, 1), dot(1, 2), dot(2, 1), dot(3, 1)

// vec is a vector of Acts and Seqs, by turns.
func vec(n ...int) api.Vector {
	var v api.Vector
	for i := 0; i+1 < len(n); i += 2 {
		v = append(v, dot(n[i], n[i+1]))
	}
	return v
}

// made is the making of a block.
func made(time int, block, parent api.Dot, key string) api.Op {
	return moved(block, time, block, parent, key)
}

// moved is a move of a block.
func moved(id api.Dot, time int, block, parent api.Dot, key string) api.Op {
	return api.Op{Id: id, Time: time, Kind: api.Move, Block: block, Parent: parent, Key: key}
}

// put is a character that is put into a block, at the right side of another one.
func put(id, block, at api.Dot, char int) api.Op {
	return api.Op{Id: id, Time: 1, Kind: api.Insert, Block: block, At: at, Side: api.Right, Char: char}
}

// taken is a character that is taken out of a block's sight.
func taken(id, block, at api.Dot) api.Op {
	return api.Op{Id: id, Time: 1, Kind: api.Delete, Block: block, At: at}
}

// after is an operation with another Time, and with Deps of Acts and Seqs, by turns.
func after(o api.Op, time int, deps ...int) api.Op {
	o.Time, o.Deps = time, vec(deps...)
	return o
}

// slow is what operations come to, by the words of the chapters: all moves and all characters, as they came.
type slow struct {
	moves []api.Op
	texts map[api.Dot]*[]char
}

// char is a character of a text.
type char struct {
	id, at     api.Dot
	side, char int
	seen       bool
}

// place is where a block lies.
type place struct {
	parent api.Dot
	key    string
}

// byDots is below 0, 0 or above 0, as one dot comes ahead of another one, is that one, or comes behind it.
func byDots(x, y api.Dot) int {
	return cmp.Or(cmp.Compare(x.Act, y.Act), cmp.Compare(x.Seq, y.Seq))
}

// apply is told one more operation.
func (m *slow) apply(o api.Op) {
	switch o.Kind {
	case api.Move:
		m.move(o)
	case api.Insert:
		m.insert(o)
	case api.Delete:
		for i, x := range *m.text(o.Block) {
			if x.id == o.At {
				(*m.texts[o.Block])[i].seen = false
			}
		}
	}
}

// move keeps a move, if it may be and isn't there.
func (m *slow) move(o api.Op) {
	no := []api.Dot{none, root, trash}
	twice := slices.ContainsFunc(m.moves, func(x api.Op) bool { return x.Id == o.Id })
	if !slices.Contains(no, o.Id) && !slices.Contains(no, o.Block) && !twice {
		m.moves = append(m.moves, o)
	}
}

// insert keeps a character, if it may be, isn't there, and the one under which it lies is.
func (m *slow) insert(o api.Op) {
	l := m.text(o.Block)
	is := func(id api.Dot) bool {
		return slices.ContainsFunc(*l, func(x char) bool { return x.id == id })
	}
	sided := o.Side == api.Right || o.Side == api.Left && o.At != none
	if sided && o.Id != none && !is(o.Id) && (o.At == none || is(o.At)) {
		*l = append(*l, char{id: o.Id, at: o.At, side: o.Side, char: o.Char, seen: true})
	}
}

// text is a block's text, made if there is none.
func (m *slow) text(b api.Dot) *[]char {
	if m.texts == nil {
		m.texts = map[api.Dot]*[]char{}
	}
	if m.texts[b] == nil {
		m.texts[b] = &[]char{}
	}
	return m.texts[b]
}

// chars are a block's characters, in order.
func (m *slow) chars(b api.Dot) []char {
	if m.texts[b] == nil {
		return nil
	}
	return m.under(b, none, api.Right)
}

// under are the characters that lie at a side of one, with all under them, in order.
func (m *slow) under(b, at api.Dot, side int) []char {
	var out []char
	l := slices.Clone(*m.texts[b])
	slices.SortFunc(l, func(x, y char) int { return byDots(x.id, y.id) })
	for _, x := range l {
		if x.at == at && x.side == side {
			out = append(out, m.under(b, x.id, api.Left)...)
			out = append(out, x)
			out = append(out, m.under(b, x.id, api.Right)...)
		}
	}
	return out
}

// seen is a block's text, as it is seen.
func (m *slow) seen(b api.Dot) string {
	var out strings.Builder
	for _, x := range m.chars(b) {
		if x.seen {
			out.WriteRune(rune(max(-1, min(x.char, api.MaxChar+1))))
		}
	}
	return out.String()
}

// places are the blocks, with where they lie, and the moves that took effect.
func (m *slow) places() (map[api.Dot]place, []api.Dot) {
	at := map[api.Dot]place{}
	var took []api.Dot
	l := slices.Clone(m.moves)
	slices.SortFunc(l, func(x, y api.Op) int { return cmp.Or(cmp.Compare(x.Time, y.Time), byDots(x.Id, y.Id)) })
	for _, o := range l {
		_, there := at[o.Block]
		_, above := at[o.Parent]
		above = above || o.Parent == root || o.Parent == trash
		p := o.Parent
		for p != o.Block && p != root && p != trash && above {
			p = at[p].parent
		}
		if (there || o.Block == o.Id) && above && p != o.Block {
			at[o.Block] = place{parent: o.Parent, key: o.Key}
			took = append(took, o.Id)
		}
	}
	return at, took
}

// lines are the blocks under one, as they are shown.
func (m *slow) lines(at map[api.Dot]place, top api.Dot, depth int) []api.Line {
	var kids []api.Dot
	for b, p := range at {
		if p.parent == top {
			kids = append(kids, b)
		}
	}
	slices.SortFunc(kids, func(x, y api.Dot) int { return cmp.Or(cmp.Compare(at[x].key, at[y].key), byDots(x, y)) })
	var out []api.Line
	for _, b := range kids {
		out = append(out, api.Line{Block: b, Depth: depth, Text: m.seen(b)})
		out = append(out, m.lines(at, b, depth+1)...)
	}
	return out
}

// shown are the blocks under Root, as a text.
func (m *slow) shown() string {
	var out strings.Builder
	at, _ := m.places()
	for _, l := range m.lines(at, root, 0) {
		out.WriteString(strings.Repeat("  ", l.Depth) + "- " + strings.NewReplacer(`\`, `\\`, "\n", `\n`).Replace(l.Text) + "\n")
	}
	return out.String()
}

// dots are all dots of which operations tell, and some others.
func (m *slow) dots() []api.Dot {
	out := []api.Dot{
		none, root, trash, a, b, c, d, dot(0, 1), dot(1, 0), dot(-1, 1), dot(99, 9), dot(0, 1<<32-1),
		dot(math.MinInt, math.MinInt), dot(math.MaxInt, math.MaxInt),
	}
	for _, o := range m.moves {
		out = append(out, o.Id, o.Block, o.Parent)
	}
	for b, l := range m.texts {
		out = append(out, b)
		for _, x := range *l {
			out = append(out, x.id)
		}
	}
	slices.SortFunc(out, byDots)
	return slices.Compact(out)
}

// check looks at a state, in all that it tells.
func check(t *testing.T, what string, s *view.State, m *slow) {
	t.Helper()
	at, took := m.places()
	var blocks []api.Dot
	for _, x := range m.dots() {
		if got, want := s.Lines(x), m.lines(at, x, 0); !slices.Equal(got, want) {
			t.Fatalf("%s: Lines of %v are %v, not %v", what, x, got, want)
		}
		if got, want := s.Text(x), m.seen(x); got != want {
			t.Fatalf("%s: Text of %v is %q, not %q", what, x, got, want)
		}
		checkChars(t, what, s.Chars(x), m, x)
		want, there := at[x]
		if p, key, is := s.Tree().Parent(x); p != want.parent || key != want.key || is != there {
			t.Fatalf("%s: Parent of %v is %v, %q, %v, not %v, %v", what, x, p, key, is, want, there)
		}
		if got := s.Tree().Took(x); got != slices.Contains(took, x) {
			t.Fatalf("%s: Took of %v is %v", what, x, got)
		}
		if there {
			blocks = append(blocks, x)
		}
	}
	if got := s.Tree().Blocks(); !slices.Equal(got, blocks) {
		t.Fatalf("%s: the blocks are %v, not %v", what, got, blocks)
	}
}

// checkChars looks at a block's text, or that it has none.
func checkChars(t *testing.T, what string, got *fugue.Text, m *slow, x api.Dot) {
	t.Helper()
	if (got != nil) != (m.texts[x] != nil) {
		t.Fatalf("%s: Chars of %v are %v", what, x, got)
	}
	var all, dots []api.Dot
	var chars []int
	for _, y := range m.chars(x) {
		all = append(all, y.id)
		if y.seen {
			dots, chars = append(dots, y.id), append(chars, y.char)
		}
	}
	if !slices.Equal(got.All(), all) || !slices.Equal(got.Dots(), dots) || !slices.Equal(got.Chars(), chars) {
		t.Fatalf("%s: the text of %v is %v, %v, %v, not %v, %v, %v", what, x, got.All(), got.Dots(), got.Chars(), all, dots, chars)
	}
}

// of is a state to which operations are Applied, one by one, and the same by the chapters' words.
func of(l ...api.Op) (*view.State, *slow) {
	s, m := view.New(), &slow{}
	apply(s, m, l...)
	return s, m
}

// apply tells both of operations.
func apply(s *view.State, m *slow, l ...api.Op) {
	for _, o := range l {
		s.Apply(o)
		m.apply(o)
	}
}

// checkLines looks at the lines under a block.
func checkLines(t *testing.T, s *view.State, top api.Dot, want ...api.Line) {
	t.Helper()
	if got := s.Lines(top); !slices.Equal(got, want) {
		t.Errorf("Lines of %v are %v, not %v", top, got, want)
	}
}

// checkText looks at a text, as it is seen, and that there is one.
func checkText(t *testing.T, s *view.State, b api.Dot, want string) {
	t.Helper()
	if got := s.Text(b); got != want || s.Chars(b) == nil || s.Chars(b).String() != want {
		t.Errorf("Text of %v is %q, and Chars %v, not %q", b, got, s.Chars(b), want)
	}
}

// checkNoText looks that there is no text.
func checkNoText(t *testing.T, s *view.State, b api.Dot) {
	t.Helper()
	if s.Chars(b) != nil || s.Text(b) != "" {
		t.Errorf("Text of %v is %q, and Chars %v", b, s.Text(b), s.Chars(b))
	}
}
