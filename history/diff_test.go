package history_test

import (
	"math"
	"slices"
	"testing"

	"osier/api"
	"osier/history"
	"osier/view"
)

// slowDiff is what changed by the chapter's words.
func slowDiff(a, b *view.State) []history.Change {
	var out []history.Change
	blocks := slices.Concat(a.Tree().Blocks(), b.Tree().Blocks())
	slices.SortFunc(blocks, byDot)
	for _, x := range slices.Compact(blocks) {
		p, key, was := a.Tree().Parent(x)
		q, other, is := b.Tree().Parent(x)
		switch {
		case !was:
			out = append(out, history.Change{Kind: history.Made, Block: x})
		case !is:
			out = append(out, history.Change{Kind: history.Gone, Block: x})
		default:
			if p != q || key != other {
				out = append(out, history.Change{Kind: history.Moved, Block: x})
			}
			if a.Text(x) != b.Text(x) {
				out = append(out, history.Change{Kind: history.Written, Block: x, Was: a.Text(x), Now: b.Text(x)})
			}
		}
	}
	return out
}

// turned is what changed the other way round.
func turned(l []history.Change) []history.Change {
	l = slices.Clone(l)
	for i, c := range l {
		switch c.Kind {
		case history.Made:
			l[i].Kind = history.Gone
		case history.Gone:
			l[i].Kind = history.Made
		}
		l[i].Was, l[i].Now = c.Now, c.Was
	}
	return l
}

// shown is what a state tells, of the blocks that are shown.
func shown(s *view.State) []api.Line { return slices.Concat(s.Lines(root), s.Lines(trash)) }

// checkDiff looks at Diff, one way and the other, that it is new memory, and that it changes nothing.
func checkDiff(t *testing.T, what string, a, b *view.State, want ...history.Change) {
	t.Helper()
	wasA, wasB := shown(a), shown(b)
	got, again := history.Diff(a, b), history.Diff(a, b)
	if !slices.Equal(got, want) {
		t.Fatalf("%s: Diff is %+v, not %+v", what, got, want)
	}
	for i := range got {
		got[i] = history.Change{Kind: -1, Was: "spoiled"}
	}
	if !slices.Equal(again, want) {
		t.Fatalf("%s: two answers share memory", what)
	}
	if back := history.Diff(b, a); !slices.Equal(back, turned(want)) {
		t.Fatalf("%s: the other way round Diff is %+v, not %+v", what, back, turned(want))
	}
	if !slices.Equal(shown(a), wasA) || !slices.Equal(shown(b), wasB) {
		t.Fatalf("%s: the states are changed", what)
	}
}

// change is a change of a Kind that has no texts.
func change(kind int, block api.Dot) history.Change { return history.Change{Kind: kind, Block: block} }

// written is a change of a text.
func written(block api.Dot, was, now string) history.Change {
	return history.Change{Kind: history.Written, Block: block, Was: was, Now: now}
}

// applied is a state to which operations are Applied, one by one.
func applied(l ...api.Op) *view.State {
	s := view.New()
	for _, o := range l {
		s.Apply(o)
	}
	return s
}

// The blocks of base.
var a, b, c = dot(1, 1), dot(2, 1), dot(3, 1)

// base is a with the text `x`, b with c under it, and more operations behind these.
func base(more ...api.Op) *view.State {
	return applied(append([]api.Op{made(1, 1, 1), made(2, 1, 2), moved(3, 1, 3, c, b), put(1, 2, 4, a, none, 'x')}, more...)...)
}

// P16.3: a block that is b's alone is made, one that is a's alone is gone, whatever its text is, and wherever it lies.
func TestMadeAndGone(t *testing.T) {
	checkDiff(t, "made", base(), base(made(9, 1, 9)), change(history.Made, dot(9, 1)))
	checkDiff(t, "made in the trash", base(), base(moved(9, 1, 9, dot(9, 1), trash)), change(history.Made, dot(9, 1)))
	checkDiff(t, "made and written", base(), base(moved(9, 1, 9, dot(9, 1), c), put(9, 2, 10, dot(9, 1), none, 'y')), change(history.Made, dot(9, 1)))
	checkDiff(t, "made, and moved since", base(), base(made(9, 1, 9), moved(9, 2, 10, dot(9, 1), trash)), change(history.Made, dot(9, 1)))
	checkDiff(t, "all made", view.New(), base(), change(history.Made, a), change(history.Made, b), change(history.Made, c))
	checkDiff(t, "one of each", applied(made(1, 1, 1)), applied(made(2, 1, 1)), change(history.Gone, a), change(history.Made, b))
	checkDiff(t, "a move that makes nothing", base(), base(moved(9, 1, 9, dot(9, 1), dot(8, 1)), moved(9, 2, 9, dot(9, 3), root)))
}

// P16.3: a block is moved, if its parent or its key is another one; one in the trash is a block, too.
func TestMoved(t *testing.T) {
	checkDiff(t, "another parent", base(), base(moved(9, 1, 9, c, root)), change(history.Moved, c))
	checkDiff(t, "another key", base(), base(keyed(moved(9, 1, 9, c, b), "m")), change(history.Moved, c))
	checkDiff(t, "another parent and key", base(), base(keyed(moved(9, 1, 9, c, a), "nn")), change(history.Moved, c))
	checkDiff(t, "thrown away", base(), base(moved(9, 1, 9, b, trash)), change(history.Moved, b))
	checkDiff(t, "moved in the trash", base(moved(9, 1, 9, b, trash)), base(keyed(moved(9, 1, 9, b, trash), "z")), change(history.Moved, b))
	checkDiff(t, "two", base(), base(moved(9, 1, 9, c, trash), moved(9, 2, 10, a, b)), change(history.Moved, a), change(history.Moved, c))
	// What lies under a moved one has the parent that it had.
	checkDiff(t, "moved with what is under it", base(), base(moved(9, 1, 9, b, a)), change(history.Moved, b))
	checkDiff(t, "moved to where it was", base(), base(moved(9, 1, 9, c, b)))
	checkDiff(t, "moved away and back", base(), base(moved(9, 1, 9, c, a), moved(9, 2, 10, c, b)))
	checkDiff(t, "moved without an effect", base(), base(moved(9, 1, 9, b, c), moved(9, 2, 10, c, dot(8, 8))))
	// A place among the others that others changed is the same place.
	checkDiff(t, "another one ahead", base(), base(keyed(moved(9, 1, 9, c, root), "b")), change(history.Moved, c))
}

// P16.3: a block is written, if its text is another one; both texts are told.
func TestWritten(t *testing.T) {
	checkDiff(t, "a text", base(), base(put(9, 1, 9, a, dot(1, 2), 'y')), written(a, "x", "xy"))
	checkDiff(t, "a first text", base(), base(put(9, 1, 9, c, none, 'y')), written(c, "", "y"))
	checkDiff(t, "an empty text", base(), base(taken(9, 1, 9, a, dot(1, 2))), written(a, "x", ""))
	checkDiff(t, "in the trash", base(moved(8, 1, 9, a, trash)), base(moved(8, 1, 9, a, trash), put(9, 1, 9, a, none, 0x1f642)), written(a, "x", "x\U0001f642"))
	checkDiff(t, "two", base(), base(put(9, 1, 9, b, none, '\n'), put(9, 2, 9, a, none, '\\')), written(a, "x", `x\`), written(b, "", "\n"))
	checkDiff(t, "an empty one that is there", base(), base(taken(9, 1, 9, b, dot(7, 7))))
	checkDiff(t, "written and taken away", base(), base(put(9, 1, 9, b, none, 'y'), taken(9, 2, 9, b, dot(9, 1))))
	checkDiff(t, "the same by other characters", base(), base(put(9, 1, 9, a, none, 'x'), taken(9, 2, 10, a, dot(1, 2))))
	// What is no block has no changes, though it may have a text.
	checkDiff(t, "a text without a block", base(), base(put(9, 1, 9, dot(1, 2), none, 'y'), put(9, 2, 9, root, none, 'y'), put(9, 3, 9, dot(8, 8), none, 'y')))
}

// P16.3: a block that is moved and written has two changes, in that order; each other one stands where it stands by its dot.
func TestMovedAndWritten(t *testing.T) {
	checkDiff(t, "one", base(), base(put(9, 1, 9, c, none, 'y'), moved(9, 2, 10, c, a)), change(history.Moved, c), written(c, "", "y"))
	checkDiff(t, "all", base(), base(
		put(9, 1, 9, c, none, 'z'), taken(9, 2, 9, a, dot(1, 2)), moved(9, 3, 10, c, trash), keyed(moved(9, 4, 10, a, root), "m"), moved(9, 5, 10, b, a), put(9, 6, 9, b, none, 'y'),
	), change(history.Moved, a), written(a, "x", ""), change(history.Moved, b), written(b, "", "y"), change(history.Moved, c), written(c, "", "z"))
}

// P16.3: by dots.Less: by Act, then by Seq, whatever the times, the kinds of changes and the places are.
func TestDiffOrder(t *testing.T) {
	one, two := view.New(), view.New()
	var want []history.Change
	for i, x := range []api.Dot{dot(-3, 5), dot(0, -5), dot(0, 1), dot(0, 2), dot(0, 10), dot(1, 1), dot(2, 9), dot(10, 1), dot(10, 2), dot(api.MaxActor, math.MaxInt)} {
		make := moved(x.Act, x.Seq, 100-i, x, root)
		switch i % 4 {
		case 0:
			two.Apply(make)
			want = append(want, change(history.Made, x))
		case 1:
			one.Apply(make)
			want = append(want, change(history.Gone, x))
		case 2:
			one.Apply(make)
			two.Apply(keyed(make, "m"))
			want = append(want, change(history.Moved, x))
		default:
			one.Apply(make)
			two.Apply(make)
			two.Apply(put(50, i+1, 200, x, none, 'y'))
			want = append(want, written(x, "", "y"))
		}
	}
	checkDiff(t, "of all kinds", one, two, want...)
}

// P16.3: a state that is nil is one without operations, on either side and on both.
func TestDiffOfNil(t *testing.T) {
	var declared view.State
	for _, no := range []*view.State{nil, view.New(), &declared} {
		checkDiff(t, "of nothing", no, nil)
		checkDiff(t, "of nothing", no, view.New())
		checkDiff(t, "of all", no, base(), change(history.Made, a), change(history.Made, b), change(history.Made, c))
		checkDiff(t, "of texts alone", no, applied(put(1, 2, 1, a, none, 'x')))
		checkDiff(t, "of a move without an effect", no, applied(moved(1, 2, 1, a, root)))
	}
}

// P16.3: a state that was told of more since has changes then.
func TestDiffAgain(t *testing.T) {
	one, two := base(), base()
	checkDiff(t, "at first", one, two)
	two.Apply(moved(9, 1, 9, c, root))
	checkDiff(t, "moved", one, two, change(history.Moved, c))
	one.Apply(moved(9, 1, 9, c, root))
	checkDiff(t, "moved, too", one, two)
	one.Apply(put(9, 2, 9, c, none, 'y'))
	checkDiff(t, "written", one, two, written(c, "y", ""))
	// A move that comes late, and is done ahead of the one of c under b.
	two.Apply(moved(9, 3, 1, dot(9, 3), root))
	two.Apply(moved(9, 4, 3, a, trash))
	checkDiff(t, "late", one, two, change(history.Moved, a), written(c, "y", ""), change(history.Made, dot(9, 3)))
}
