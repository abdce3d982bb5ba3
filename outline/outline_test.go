package outline_test

import (
	"cmp"
	"regexp"
	"slices"
	"strings"
	"testing"

	"osier/api"
	"osier/fugue"
	"osier/movetree"
	"osier/outline"
)

// The calls, with just the signatures that the chapter lists.
var (
	_ func(t *movetree.Tree, texts map[api.Dot]*fugue.Text, top api.Dot) []api.Line = outline.Under
	_ func(l []api.Line) string                                                     = outline.Show
	_ func(s string) ([]api.Line, api.Errno)                                        = outline.Read
)

// dot is the dot act.seq.
func dot(act, seq int) api.Dot { return api.Dot{Act: act, Seq: seq} }

var root, trash = api.Root(), api.Trash()

// Some blocks.
var a, b, c, d, e, f = dot(1, 1), dot(1, 2), dot(1, 3), dot(2, 1), dot(2, 2), dot(3, 1)

// texts are texts by blocks.
type texts = map[api.Dot]*fugue.Text

// at is a block, and where it lies.
type at struct {
	block, parent api.Dot
	key           string
}

// tree is a tree with blocks that are made one by one.
func tree(t *testing.T, l ...at) *movetree.Tree {
	t.Helper()
	x := movetree.New()
	for i, m := range l {
		if e := x.Move(m.block, i, m.block, m.parent, m.key); e != api.OK || !x.Took(m.block) {
			t.Fatalf("Move of %+v: error %d", m, e)
		}
	}
	return x
}

// hedge is a tree with blocks under one another, side by side and in the trash:
// under Root c, with b under it, with f under that one, and then a; in the trash e, with d under it.
func hedge(t *testing.T) *movetree.Tree {
	t.Helper()
	return tree(t, at{a, root, "n"}, at{c, root, "m"}, at{b, c, "z"}, at{f, b, "n"}, at{e, trash, "n"}, at{d, e, "n"})
}

// text is a text of these chars.
func text(t *testing.T, chars ...int) *fugue.Text {
	t.Helper()
	x := fugue.New()
	for i, char := range chars {
		above, side, _ := x.Place(i)
		if e := x.Insert(dot(77, i+1), above, side, char); e != api.OK {
			t.Fatalf("Insert of %d: error %d", char, e)
		}
	}
	return x
}

// word is a text of the runes of a string.
func word(t *testing.T, s string) *fugue.Text {
	t.Helper()
	var chars []int
	for _, r := range s {
		chars = append(chars, int(r))
	}
	return text(t, chars...)
}

// line is a line that has no block.
func line(depth int, text string) api.Line { return api.Line{Depth: depth, Text: text} }

// without are lines without their blocks.
func without(l []api.Line) []api.Line {
	out := slices.Clone(l)
	for i := range out {
		out[i].Block = api.Dot{}
	}
	return out
}

// slowUnder are the lines under a block, by all blocks' ways down to them: those that are above others come first.
func slowUnder(x *movetree.Tree, l texts, top api.Dot) []api.Line {
	type way struct {
		line api.Line
		down []at
	}
	var ways []way
	for _, b := range x.Blocks() {
		path := x.Path(b)
		depth := slices.Index(path, top)
		if depth < 0 {
			continue
		}
		w := way{line: api.Line{Block: b, Depth: depth}}
		for _, s := range append([]api.Dot{b}, path[:depth]...) {
			_, key, _ := x.Parent(s)
			w.down = slices.Insert(w.down, 0, at{block: s, key: key})
		}
		if l[b] != nil {
			w.line.Text = l[b].String()
		}
		ways = append(ways, w)
	}
	slices.SortFunc(ways, func(v, w way) int {
		return slices.CompareFunc(v.down, w.down, func(m, o at) int {
			return cmp.Or(cmp.Compare(m.key, o.key), cmp.Compare(m.block.Act, o.block.Act), cmp.Compare(m.block.Seq, o.block.Seq))
		})
	})
	var out []api.Line
	for _, w := range ways {
		out = append(out, w.line)
	}
	return out
}

// slowShow are lines as a text, byte by byte.
func slowShow(l []api.Line) string {
	var out []byte
	for _, x := range l {
		for n := 0; n < x.Depth; n++ {
			out = append(out, 32, 32)
		}
		out = append(out, 45, 32)
		for _, c := range []byte(x.Text) {
			switch c {
			case 92:
				out = append(out, 92, 92)
			case 10:
				out = append(out, 92, 110)
			default:
				out = append(out, c)
			}
		}
		out = append(out, 10)
	}
	return string(out)
}

var shownLine = regexp.MustCompile(`^((?:  )*)- ((?:[^\\\n]|\\\\|\\n)*)\n$`)

// slowRead are the lines of a text, by what a line looks like.
func slowRead(s string) ([]api.Line, api.Errno) {
	var out []api.Line
	for _, l := range strings.SplitAfter(s, "\n") {
		if l == "" {
			continue
		}
		m := shownLine.FindStringSubmatch(l)
		if m == nil {
			return nil, api.ErrForm
		}
		depth := len(m[1]) / 2
		if len(out) == 0 && depth != 0 || len(out) > 0 && depth > out[len(out)-1].Depth+1 {
			return nil, api.ErrForm
		}
		out = append(out, line(depth, strings.NewReplacer(`\\`, `\`, `\n`, "\n").Replace(m[2])))
	}
	return out, api.OK
}

// checkUnder looks at the lines under a block.
func checkUnder(t *testing.T, what string, x *movetree.Tree, l texts, top api.Dot, want ...api.Line) {
	t.Helper()
	if got := outline.Under(x, l, top); !slices.Equal(got, want) {
		t.Errorf("%s: Under of %v is %v, not %v", what, top, got, want)
	}
}

// checkShow looks at lines as they are shown.
func checkShow(t *testing.T, want string, l ...api.Line) {
	t.Helper()
	if got := outline.Show(l); got != want {
		t.Errorf("Show of %v is %q, not %q", l, got, want)
	}
}

// checkRead looks at a text that is read.
func checkRead(t *testing.T, s string, want ...api.Line) {
	t.Helper()
	if got, e := outline.Read(s); !slices.Equal(got, want) || e != api.OK {
		t.Errorf("Read of %q is %v, %d, not %v", s, got, e, want)
	}
}

// checkNone looks at a text that is none of lines.
func checkNone(t *testing.T, s string) {
	t.Helper()
	if got, e := outline.Read(s); len(got) != 0 || e != api.ErrForm {
		t.Errorf("Read of %q is %v, %d", s, got, e)
	}
}
