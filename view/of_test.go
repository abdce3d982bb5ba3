package view_test

import (
	"slices"
	"testing"

	"osier/api"
	"osier/causal"
	"osier/ops"
	"osier/view"
)

// right are operations of two actors that may be, and lean on one another: a is made, with `x` in it and `y` behind that; d is made under a, with `d` in it; `x` is taken out of sight, and a thrown away and fetched again.
func right() []api.Op {
	return []api.Op{
		made(1, a, root, "n"),
		after(put(dot(1, 2), a, none, 'x'), 2, 1, 1),
		after(put(dot(1, 3), a, dot(1, 2), 'y'), 3, 1, 2),
		after(made(0, d, a, "n"), 4, 1, 3),
		after(put(dot(3, 2), d, none, 'd'), 5, 1, 3, 3, 1),
		after(taken(dot(3, 3), a, dot(1, 2)), 6, 1, 3, 3, 2),
		after(moved(dot(1, 4), 0, a, trash, "n"), 5, 1, 3, 3, 1),
		after(moved(dot(3, 4), 0, a, root, "m"), 7, 1, 4, 3, 3),
	}
}

// checkOf looks at what operations come to, and as what it is shown, held against those that count, in their order.
func checkOf(t *testing.T, what string, l []api.Op, counts ...api.Op) {
	t.Helper()
	_, m := of(counts...)
	check(t, what, view.Of(l), m)
	if got := view.View(l); got != m.shown() {
		t.Errorf("%s: it is shown as %q, not %q", what, got, m.shown())
	}
}

// checkView looks at as what operations are shown.
func checkView(t *testing.T, want string, l ...api.Op) {
	t.Helper()
	if got := view.View(l); got != want {
		t.Errorf("%+v are shown as %q, not %q", l, got, want)
	}
}

// P12.3: no operations come to a state all the same, with nothing in it.
func TestOfNone(t *testing.T) {
	for _, l := range [][]api.Op{nil, {}, right()[:0]} {
		checkOf(t, "none", l)
		checkView(t, "", l...)
		s := view.Of(l)
		if s == nil || s.Tree() == nil {
			t.Fatal("none come to nil")
		}
		s.Apply(made(1, a, root, "n"))
		checkLines(t, s, root, api.Line{Block: a})
	}
}

// P12.3: right operations all count; those to come may be Applied behind them.
func TestOfRight(t *testing.T) {
	l := right()
	if !causal.Right(l) {
		t.Fatal("they aren't right")
	}
	for n := range len(l) + 1 {
		checkOf(t, "right", l[:n], l[:n]...)
		s, m := view.Of(l[:n]), &slow{}
		for _, o := range l[:n] {
			m.apply(o)
		}
		apply(s, m, l[n:]...)
		check(t, "right, and then the rest", s, m)
	}
	for n, want := range []string{"", "- \n", "- x\n", "- xy\n", "- xy\n  - \n", "- xy\n  - d\n", "- y\n  - d\n", "", "- y\n  - d\n"} {
		checkView(t, want, l[:n]...)
	}
}

// P12.3: the order in which they count is that in which they lean on one another, not that in which they are handed in.
func TestOfBackwards(t *testing.T) {
	l := right()
	back := slices.Clone(l)
	slices.Reverse(back)
	checkOf(t, "backwards", back, l...)
	checkView(t, "- y\n  - d\n", back...)
	checkView(t, "- xy\n", l[2], l[1], l[0])
}

// P12.3: of several with one Id the first one counts.
func TestOfTwice(t *testing.T) {
	l := right()
	checkOf(t, "all twice", slices.Concat(l, l), l...)
	other := l[1]
	other.Char = '!'
	checkView(t, "- x\n", l[0], l[1], other)
	checkView(t, "- !\n", l[0], other, l[1])
	thrown := l[0]
	thrown.Parent = trash
	checkView(t, "- x\n", l[0], l[1], thrown)
	checkView(t, "", thrown, l[1], l[0])
	checkOf(t, "the first one", []api.Op{thrown, l[1], l[0]}, thrown, l[1])
	// Of one Id, in two texts: applied both would count.
	elsewhere := l[4]
	elsewhere.Block = a
	checkOf(t, "in another text", append(slices.Clone(l[:5]), elsewhere), l[:5]...)
}

// P12.3: those that may not be don't count, though tree and texts would take them; nor do they take another one's Id.
func TestOfWrong(t *testing.T) {
	l := right()[:3]
	change := func(o api.Op, f func(o *api.Op)) api.Op {
		f(&o)
		return o
	}
	for _, wrong := range []api.Op{
		change(l[0], func(o *api.Op) { o.Key = "" }),
		change(l[0], func(o *api.Op) { o.Time = 0 }),
		change(l[0], func(o *api.Op) { o.Char = 1 }),
		change(l[1], func(o *api.Op) { o.Char = 55296 }),
		change(l[1], func(o *api.Op) { o.Char = -1 }),
		change(l[1], func(o *api.Op) { o.Deps = nil }),
		change(l[2], func(o *api.Op) { o.Block = d }),
		change(l[2], func(o *api.Op) { o.Key = "n" }),
		change(l[2], func(o *api.Op) { o.At, o.Side = none, api.Left }),
		after(made(0, dot(1, 4), d, "n"), 4, 1, 3), after(taken(dot(1, 4), a, none), 4, 1, 3), after(moved(dot(1, 4), 0, a, a, "n"), 4, 1, 3),
		made(4, dot(-1, 1), root, "n"), made(4, dot(1<<24, 1), root, "n"), {}, {Id: dot(2, 1), Time: 1, Kind: 4, Block: dot(2, 1), Parent: root, Key: "n"},
	} {
		if ops.Check(wrong) {
			t.Fatalf("%+v may be", wrong)
		}
		checkOf(t, "a wrong one ahead", append([]api.Op{wrong}, l...), l...)
		checkOf(t, "a wrong one behind", append(slices.Clone(l), wrong), l...)
		checkOf(t, "a wrong one alone", []api.Op{wrong})
	}
	checkView(t, "- \n", l[0], change(l[1], func(o *api.Op) { o.Char = 57343 }))
}

// P12.3: those that lean on what isn't there don't count, though tree and texts would take them; nor do those that lean on them.
func TestOfEarly(t *testing.T) {
	l := right()
	checkOf(t, "without the first one", l[1:])
	checkView(t, "", l[1:]...)
	checkOf(t, "without the second one", slices.Concat(l[:1], l[2:]), l[0])
	checkOf(t, "without the fourth one", slices.Concat(l[:3], l[4:]), l[:3]...)
	second := after(made(0, dot(4, 2), root, "a"), 9, 4, 1)
	checkOf(t, "another actor's second one", append([]api.Op{second}, l...), l...)
	leans := after(made(0, dot(4, 1), root, "a"), 9, 9, 1)
	checkOf(t, "one that leans on another actor", append([]api.Op{leans}, l...), l...)
	checkView(t, "- \n- \n", l[0], made(1, dot(9, 1), root, "b"), after(made(0, dot(4, 2), root, "a"), 9, 4, 1))
	// Each leans on the other one: neither is ever taken in.
	checkOf(t, "round about", append(slices.Clone(l), after(made(0, dot(4, 1), root, "n"), 9, 5, 1), after(made(0, dot(5, 1), root, "n"), 9, 4, 1)), l...)
}

// P12.3: those whose Times aren't above those on which they lean count all the same.
func TestOfLate(t *testing.T) {
	l := right()
	for i := range l {
		l[i].Time = 20 - i
	}
	in, left := causal.Order(l)
	if len(in) != len(l) || len(left) != 0 || causal.Right(l) {
		t.Fatalf("%+v are taken in, and %+v left", in, left)
	}
	checkOf(t, "late", l, in...)
}

// P12.3: what is shown is what lies under Root, with its line ends and `\` as package outline shows them.
func TestViewShown(t *testing.T) {
	l := []api.Op{
		made(1, a, root, "n"), after(made(0, b, a, "n"), 2, 1, 1), after(made(0, dot(1, 3), trash, "n"), 3, 1, 2),
		after(put(dot(1, 4), b, none, '\n'), 4, 1, 3), after(put(dot(1, 5), b, dot(1, 4), '\\'), 5, 1, 4), after(put(dot(1, 6), dot(1, 3), none, 't'), 6, 1, 5),
		after(put(dot(1, 7), a, none, 0x65e5), 7, 1, 6),
	}
	checkView(t, "- \u65e5\n  - \\n\\\\\n", l...)
	checkOf(t, "shown", l, l...)
}

// whole is a row, in memory of its own, with the room behind it and behind all Deps.
func whole(l []api.Op) []api.Op {
	out := slices.Clone(l[:cap(l)])
	for i, o := range out {
		out[i].Deps = slices.Clone(o.Deps[:cap(o.Deps)])
	}
	return out
}

// P12.3: what is handed in isn't changed, and not kept.
func TestOfUnchanged(t *testing.T) {
	l := append(right(), made(3, dot(77, 1), root, "n"))
	slices.Reverse(l[:len(l)-1])
	for i, o := range l {
		l[i].Deps = append(slices.Clone(o.Deps), dot(88, 8))[:len(o.Deps)]
	}
	l = l[:len(l)-1]
	before := whole(l)
	s, shown := view.Of(l), view.View(l)
	if got := whole(l); !slices.EqualFunc(got, before, ops.Same) {
		t.Errorf("%+v were %+v", got, before)
	}
	for i := range l {
		for j := range l[i].Deps {
			l[i].Deps[j] = dot(-9, j)
		}
		l[i] = made(5, dot(6, 1+i), trash, "z")
	}
	_, m := of(right()...)
	check(t, "behind changes", s, m)
	if shown != m.shown() {
		t.Errorf("it is shown as %q", shown)
	}
}

// P12.3: each answer is a state of its own.
func TestOfApart(t *testing.T) {
	l := right()
	s, other := view.Of(l), view.Of(l)
	other.Apply(moved(dot(9, 1), 30, a, trash, "n"))
	other.Apply(put(dot(9, 2), d, none, '!'))
	_, m := of(l...)
	check(t, "apart", s, m)
	check(t, "asked again", view.Of(l), m)
}
