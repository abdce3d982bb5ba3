package outline_test

import (
	"maps"
	"math"
	"math/rand/v2"
	"slices"
	"testing"

	"osier/api"
	"osier/fugue"
	"osier/movetree"
	"osier/outline"
)

// P11.1, P11.2: the chapter's example.
func TestExample(t *testing.T) {
	x := tree(t, at{a, root, "m"}, at{b, a, "n"}, at{c, root, "n"})
	l := texts{a: word(t, "x"), b: word(t, "y")}
	checkUnder(t, "the example", x, l, root, api.Line{Block: a, Text: "x"}, api.Line{Block: b, Depth: 1, Text: "y"}, api.Line{Block: c})
	checkShow(t, "- x\n  - y\n- \n", outline.Under(x, l, root)...)
}

// tops are dots that are no blocks of the trees of these tests, but for Root and Trash.
func tops() []api.Dot {
	return []api.Dot{
		root, trash, {}, dot(0, 1), dot(1, 0), dot(1, -1), dot(-1, 1), dot(99, 9), dot(0, 1<<32-1), dot(0, 1<<32-2),
		dot(math.MinInt, math.MinInt), dot(math.MaxInt, math.MaxInt),
	}
}

// P11.1: of a tree without blocks, and of nil, nothing, whatever the rest is.
func TestUnderNone(t *testing.T) {
	for _, l := range []texts{nil, {}, {a: word(t, "x"), root: word(t, "r"), trash: word(t, "t"), {}: word(t, "z"), b: nil}} {
		for _, top := range append(tops(), a, b) {
			checkUnder(t, "nil", nil, l, top)
			checkUnder(t, "new", movetree.New(), l, top)
			checkUnder(t, "declared", &movetree.Tree{}, l, top)
		}
	}
}

// P11.1: a tree with moves, none of which took effect, has no blocks, either.
func TestUnderNoEffect(t *testing.T) {
	x := movetree.New()
	x.Move(a, 1, a, b, "n")
	x.Move(b, 2, c, root, "n")
	for _, top := range append(tops(), a, b, c) {
		checkUnder(t, "no effect", x, texts{a: word(t, "x")}, top)
	}
}

// P11.1: blocks under one another, side by side and in the trash, under each top; Depth begins at 0 there.
func TestUnderTops(t *testing.T) {
	x := hedge(t)
	checkUnder(t, "Root", x, nil, root, api.Line{Block: c}, api.Line{Block: b, Depth: 1}, api.Line{Block: f, Depth: 2}, api.Line{Block: a})
	checkUnder(t, "Trash", x, nil, trash, api.Line{Block: e}, api.Line{Block: d, Depth: 1})
	checkUnder(t, "a block", x, nil, c, api.Line{Block: b}, api.Line{Block: f, Depth: 1})
	checkUnder(t, "one further down", x, nil, b, api.Line{Block: f})
	checkUnder(t, "one in the trash", x, nil, e, api.Line{Block: d})
	for _, top := range []api.Dot{a, f, d} {
		checkUnder(t, "one without others under it", x, nil, top)
	}
	for _, top := range tops()[2:] {
		checkUnder(t, "one that isn't there", x, nil, top)
	}
}

// P11.1: blocks side by side are in the order of their keys, and of one key by their dots; what is under one comes ahead of the next one.
func TestUnderOrder(t *testing.T) {
	x := tree(t, at{f, root, "a"}, at{d, root, "b"}, at{c, root, "b"}, at{e, root, "B"}, at{b, d, "z"}, at{a, d, "aa"})
	checkUnder(t, "side by side", x, nil, root,
		api.Line{Block: e}, api.Line{Block: f}, api.Line{Block: c}, api.Line{Block: d}, api.Line{Block: a, Depth: 1}, api.Line{Block: b, Depth: 1})
	checkUnder(t, "side by side, further down", x, nil, d, api.Line{Block: a}, api.Line{Block: b})
}

// P11.1: with texts, without them, with texts of blocks that aren't there, and with a text that is nil.
func TestUnderTexts(t *testing.T) {
	x := hedge(t)
	want := func(cText, bText, fText, aText string) []api.Line {
		return []api.Line{{Block: c, Text: cText}, {Block: b, Depth: 1, Text: bText}, {Block: f, Depth: 2, Text: fText}, {Block: a, Text: aText}}
	}
	for _, l := range []texts{nil, {}, {a: nil, b: nil, c: nil, f: nil}, {a: fugue.New(), b: {}}, {d: word(t, "d"), dot(9, 9): word(t, "no"), {}: word(t, "none"), root: word(t, "root")}} {
		checkUnder(t, "without texts", x, l, root, want("", "", "", "")...)
	}
	l := texts{a: word(t, "one"), b: word(t, "b"), c: nil, f: word(t, "tief\n\\ä日"), e: word(t, "e"), dot(9, 9): word(t, "no"), root: word(t, "root")}
	checkUnder(t, "with texts", x, l, root, want("", "b", "tief\n\\ä日", "one")...)
	checkUnder(t, "with texts, in the trash", x, l, trash, api.Line{Block: e, Text: "e"}, api.Line{Block: d, Depth: 1})
	checkUnder(t, "with texts, of a block", x, l, c, api.Line{Block: b, Text: "b"}, api.Line{Block: f, Depth: 1, Text: "tief\n\\ä日"})
}

// P11.1: the text is its String: what isn't seen is left out, and what is no code point is U+FFFD.
func TestUnderString(t *testing.T) {
	x := tree(t, at{a, root, "n"})
	s := text(t, 'u', 'n', -1, 55296, 0, api.MaxChar+1, ' ')
	s.Delete(dot(77, 1))
	checkUnder(t, "as its String", x, texts{a: s}, root, api.Line{Block: a, Text: "n\ufffd\ufffd\x00\ufffd "})
	for i := range 7 {
		s.Delete(dot(77, i+1))
	}
	checkUnder(t, "all out of sight", x, texts{a: s}, root, api.Line{Block: a})
}

// P11.1: one text may be that of several blocks.
func TestUnderShared(t *testing.T) {
	x, s := hedge(t), word(t, "s")
	checkUnder(t, "shared", x, texts{b: s, f: s}, c, api.Line{Block: b, Text: "s"}, api.Line{Block: f, Depth: 1, Text: "s"})
}

// P11.1: what is told is new memory: whoever changes it changes nothing else, and it doesn't change with the tree and the texts.
func TestUnderNewMemory(t *testing.T) {
	x, l := hedge(t), texts{a: word(t, "x"), f: nil}
	first, second := outline.Under(x, l, root), outline.Under(x, l, root)
	want := slices.Clone(second)
	for i := range first {
		first[i] = api.Line{Block: d, Depth: -1, Text: "changed"}
	}
	_ = append(first[:1], first...)
	if !slices.Equal(second, want) {
		t.Errorf("another answer is %v, not %v", second, want)
	}
	checkUnder(t, "asked again", x, l, root, want...)
	x.Move(dot(9, 9), 9, c, trash, "n")
	l[a].Delete(dot(77, 1))
	if !slices.Equal(second, want) {
		t.Errorf("an answer is %v behind changes, and was %v", second, want)
	}
	checkUnder(t, "changed", x, l, root, api.Line{Block: a})
}

// P11.1: what is handed in isn't changed.
func TestUnderKeeps(t *testing.T) {
	x, s := hedge(t), word(t, "x")
	l := texts{a: s, f: nil, dot(9, 9): s}
	was, blocks := maps.Clone(l), x.Blocks()
	for _, top := range append(tops(), a, b, c, d, e, f) {
		outline.Under(x, l, top)
	}
	if !maps.Equal(l, was) || s.String() != "x" || !slices.Equal(x.Blocks(), blocks) {
		t.Errorf("texts are %v, and were %v; the blocks are %v, and were %v", l, was, x.Blocks(), blocks)
	}
}

// P11.1: blocks that lie as deep as any may.
func TestUnderDeep(t *testing.T) {
	const deep = 1 << 16
	x, above := movetree.New(), root
	for i := range deep {
		block := dot(1, i+1)
		x.Move(block, i, block, above, "n")
		above = block
	}
	l := outline.Under(x, texts{above: word(t, "bottom")}, root)
	if len(l) != deep {
		t.Fatalf("%d lines", len(l))
	}
	for i, x := range l[:deep-1] {
		if x != (api.Line{Block: dot(1, i+1), Depth: i}) {
			t.Fatalf("line %d is %v", i, x)
		}
	}
	if l[deep-1] != (api.Line{Block: above, Depth: deep - 1, Text: "bottom"}) {
		t.Errorf("the last line is %v", l[deep-1])
	}
}

// grown are a tree and texts by chance; blocks are moved about, and some thrown away.
func grown(t *testing.T, r *rand.Rand, n int) (*movetree.Tree, texts) {
	t.Helper()
	x, l, keys, words := movetree.New(), texts{}, []string{"", "a", "b", "bb", "n"}, []string{"", "x", "\n", "\\", "\\n", "- ", "  - y\n", "ä日", "a b "}
	all := []api.Dot{root, root, trash}
	for i := range n {
		id := dot(r.IntN(4), i+1)
		block := id
		if r.IntN(4) == 0 {
			block = all[r.IntN(len(all))]
		}
		x.Move(id, i+r.IntN(4), block, all[r.IntN(len(all))], keys[r.IntN(len(keys))])
		all = append(all, id)
		if r.IntN(3) > 0 {
			l[id] = word(t, words[r.IntN(len(words))])
		}
	}
	return x, l
}

// P11.1: of trees by chance, under each top.
func TestUnderGrown(t *testing.T) {
	r := rand.New(rand.NewPCG(11, 1))
	deepest := 0
	for range 300 {
		x, l := grown(t, r, r.IntN(60))
		for _, top := range append(tops(), x.Blocks()...) {
			want := slowUnder(x, l, top)
			checkUnder(t, "grown", x, l, top, want...)
			for _, line := range want {
				deepest = max(deepest, line.Depth)
			}
		}
	}
	if deepest < 5 {
		t.Errorf("no tree is deeper than %d", deepest)
	}
}
