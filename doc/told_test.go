package doc_test

import (
	"math"
	"slices"
	"testing"

	"osier/api"
	"osier/doc"
	"osier/ops"
	"osier/outline"
	"osier/view"
)

// hedge are operations of three actors that are taken in, and three that wait: under Root 1.1 `x`, with 2.1 under it, in the trash 3.1.
func hedge() []api.Op {
	return []api.Op{
		made(1, 1, 1), made(2, 1, 2), made(3, 1, 2), put(1, 2, 3, dot(1, 1), none, 'x', 1, 1), put(3, 2, 4, dot(1, 1), dot(1, 2), 'y', 1, 2, 3, 1),
		moved(2, 2, 5, dot(2, 1), dot(1, 1), 1, 1, 2, 1), taken(1, 3, 5, dot(1, 1), dot(3, 2), 1, 2, 3, 2), moved(1, 4, 6, dot(3, 1), trash, 1, 3, 3, 2),
		made(4, 3, 3, 4, 2), made(2, 4, 9, 2, 3), made(5, 1, 1, 6, 1),
	}
}

// P13.3: all that is told, of a document that has some and waits for others.
func TestTold(t *testing.T) {
	d, m := of(t, hedge()...)
	if got := d.Version(); !slices.Equal(got, vec(1, 4, 2, 2, 3, 2)) {
		t.Errorf("Version is %v", got)
	}
	if d.Time() != 6 {
		t.Errorf("Time is %d", d.Time())
	}
	in := vec(1, 1, 2, 1, 3, 1, 1, 2, 3, 2, 1, 3, 2, 2, 1, 4)
	if got := ids(d.Ops()); !slices.Equal(got, in) {
		t.Errorf("Ops are %v", got)
	}
	if got := ids(d.Waiting()); !slices.Equal(got, vec(5, 1, 4, 3, 2, 4)) {
		t.Errorf("Waiting are %v", got)
	}
	if d.Show() != "- x\n  - \n" || d.Show() != outline.Show(d.State().Lines(root)) || d.Show() != view.View(d.Ops()) {
		t.Errorf("it is shown as %q", d.Show())
	}
	if got := d.State().Lines(trash); !slices.Equal(got, []api.Line{{Block: dot(3, 1)}}) {
		t.Errorf("in the trash is %v", got)
	}
	check(t, "told", d, m)
}

// P13.3: Ops and Waiting are by ops.Less, in whatever order what they tell came, and was taken in.
func TestByLess(t *testing.T) {
	d, m := of(t, made(2, 1, 9), made(3, 1, 4), made(1, 1, 9), made(1, 2, 10, 1, 1), made(4, 1, 1), made(5, 9, 7, 5, 8), made(6, 9, 6, 6, 8), made(5, 7, 8, 5, 6), made(4, 9, 7, 4, 8))
	if got := ids(d.Ops()); !slices.Equal(got, vec(4, 1, 3, 1, 1, 1, 2, 1, 1, 2)) {
		t.Errorf("Ops are %v", got)
	}
	if got := ids(d.Waiting()); !slices.Equal(got, vec(6, 9, 4, 9, 5, 9, 5, 7)) {
		t.Errorf("Waiting are %v", got)
	}
	tell(t, d, m, made(0, 1, 9), made(9, 1, 3))
	check(t, "two more", d, m)
}

// P13.3: Time and Version are of what was taken in alone; Time isn't that of the last one to come.
func TestOfTakenInAlone(t *testing.T) {
	d, m := of(t, made(1, 2, 100, 1, 1))
	if d.Time() != 0 || len(d.Version()) != 0 {
		t.Errorf("Time is %d, Version %v", d.Time(), d.Version())
	}
	tell(t, d, m, made(2, 1, 50), made(3, 1, 7))
	if d.Time() != 50 || !slices.Equal(d.Version(), vec(2, 1, 3, 1)) {
		t.Errorf("Time is %d, Version %v", d.Time(), d.Version())
	}
	tell(t, d, m, made(1, 1, 8))
	if d.Time() != 100 || !slices.Equal(d.Version(), vec(1, 2, 2, 1, 3, 1)) {
		t.Errorf("Time is %d, Version %v", d.Time(), d.Version())
	}
	check(t, "told", d, m)
}

// P13.3: Get is of what was taken in: nothing of one that waits, till it no longer does, nor of one that was thrown away.
func TestGet(t *testing.T) {
	l := chain(3)
	d, m := of(t, l[2], l[0])
	if o, there := d.Get(dot(1, 1)); !there || !ops.Same(o, l[0]) {
		t.Errorf("Get is %v, %v", o, there)
	}
	for _, x := range []api.Dot{dot(1, 2), dot(1, 3), dot(1, 4), none, root, trash} {
		if o, there := d.Get(x); there || !ops.Same(o, api.Op{}) {
			t.Errorf("Get of %v is %v, %v", x, o, there)
		}
	}
	tell(t, d, m, l[1], made(1, 4, 3, 1, 3))
	check(t, "told", d, m)
	if o, there := d.Get(dot(1, 3)); !there || !ops.Same(o, l[2]) {
		t.Errorf("Get is %v, %v", o, there)
	}
	if o, there := d.Get(dot(1, 4)); there || !ops.Same(o, api.Op{}) {
		t.Errorf("Get of a late one is %v, %v", o, there)
	}
}

// P13.3: Since, of vectors that have all, some and none, with so many at most.
func TestSince(t *testing.T) {
	d, _ := of(t, hedge()...)
	in := d.Ops()
	for _, c := range []struct {
		v    api.Vector
		most int
		want []api.Op
	}{
		{nil, 100, in}, {nil, 8, in}, {nil, 7, in[:7]}, {nil, 1, in[:1]}, {nil, 0, nil}, {nil, -1, nil}, {nil, math.MinInt, nil}, {nil, math.MaxInt, in},
		{d.Version(), 100, nil}, {vec(1, 4, 2, 2, 3, 2, 9, 9), 100, nil}, {vec(1, 1<<30, 2, 1<<30, 3, 1<<30), 100, nil},
		{vec(1, 2), 100, slices.Concat(in[1:3], in[4:])}, {vec(1, 2), 3, []api.Op{in[1], in[2], in[4]}}, {vec(1, 2), -5, nil},
		{vec(1, 4, 3, 2), 9, []api.Op{in[1], in[6]}}, {vec(1, 4, 3, 2), 1, []api.Op{in[1]}}, {vec(2, 1), 2, []api.Op{in[0], in[2]}}, {vec(7, 7), 2, in[:2]},
	} {
		v := slices.Clone(c.v)
		if got := d.Since(c.v, c.most); !same(got, c.want) {
			t.Errorf("Since %v, %d is %v, not %v", c.v, c.most, ids(got), ids(c.want))
		}
		if !slices.Equal(v, c.v) {
			t.Errorf("Since changed %v to %v", v, c.v)
		}
	}
}

// P13.3: of vectors that may not be Since answers, whatever it is.
func TestSinceWrong(t *testing.T) {
	d, m := of(t, hedge()...)
	for _, v := range []api.Vector{vec(0, 0), vec(2, 1, 1, 1), vec(1, 1, 1, 1), vec(-1, -1), vec(math.MinInt, math.MaxInt, 0, math.MinInt)} {
		for _, most := range []int{-1, 0, 3, math.MaxInt} {
			d.Since(v, most)
		}
	}
	check(t, "asked", d, m)
}

// spoil changes operations in all that they share.
func spoil(l []api.Op) {
	for i := range l {
		for j := range l[i].Deps {
			l[i].Deps[j] = dot(9, 9)
		}
		_ = append(l[i].Deps[:0], vec(8, 8, 8, 8)...)
		l[i] = api.Op{}
	}
	_ = append(l[:0], api.Op{}, api.Op{})
}

// P13.3: what is told is new memory: who changes it changes neither the document nor another answer.
func TestNewMemory(t *testing.T) {
	l := hedge()
	d, m := doc.New(), &slow{}
	for i := range l {
		// Back to front, so that answers have more than one.
		o := l[len(l)-1-i]
		m.deliver(hedge()[len(l)-1-i])
		got, _ := d.Deliver(o)
		spoil(got)
		check(t, "an answer of Deliver was changed", d, m)
	}
	for _, ask := range []func() []api.Op{d.Ops, d.Waiting, func() []api.Op { return d.Since(nil, 100) }, func() []api.Op { return d.Since(vec(1, 1), 4) }} {
		first, second := ask(), ask()
		for i := range second {
			second[i].Deps = slices.Clone(second[i].Deps)
		}
		third := ask()
		spoil(first)
		if !same(second, third) {
			t.Error("two answers share memory")
		}
		check(t, "an answer was changed", d, m)
	}
	for _, x := range d.Version() {
		o, _ := d.Get(x)
		spoil([]api.Op{o})
	}
	v := d.Version()
	for i := range v {
		v[i] = dot(9, 9)
	}
	_ = append(v[:0], vec(1, 1, 2, 1, 3, 1, 4, 1)...)
	check(t, "answers of Get and Version were changed", d, m)
}

// P13.3: no two lists of one answer share memory.
func TestAnswersApart(t *testing.T) {
	d, m := of(t, hedge()...)
	got, _ := d.Deliver(made(4, 1, 1))
	m.deliver(made(4, 1, 1))
	for _, l := range [][]api.Op{got, d.Ops(), d.Waiting(), d.Since(nil, 9)} {
		for i := range l {
			want := slices.Clone(l)
			for j := range want {
				want[j].Deps = slices.Clone(want[j].Deps)
			}
			l[i].Deps = append(l[i].Deps[:0], vec(7, 7, 7, 7, 7, 7, 7, 7)...)
			want[i] = l[i]
			if !same(l, want) {
				t.Errorf("the Deps of %v are shared", l[i].Id)
			}
		}
	}
	check(t, "answers were changed", d, m)
}

// P13.2: an operation that is handed in is neither changed nor kept: what waits doesn't change with it, nor what was taken in.
func TestNotKept(t *testing.T) {
	d, m := doc.New(), &slow{}
	l := hedge()
	for i, o := range l {
		deps := append(slices.Clone(o.Deps), vec(5, 5, 6, 6)...)
		o.Deps = deps[:len(o.Deps)]
		want := slices.Clone(deps)
		d.Deliver(o)
		m.deliver(l[i])
		if !slices.Equal(deps, want) {
			t.Errorf("Deps are %v, and were %v", deps, want)
		}
		for j := range deps {
			deps[j] = dot(9, 9)
		}
		check(t, "what was handed in was changed", d, m)
	}
	tell(t, d, m, made(6, 1, 1), made(2, 3, 8, 2, 2), made(4, 1, 1), made(4, 2, 2, 4, 1))
	check(t, "what waited was taken in", d, m)
}

// P13.3: State is the document's own: one all the time, which changes with it; what a document told of its operations doesn't.
func TestStateIsItsOwn(t *testing.T) {
	d, m := of(t)
	s := d.State()
	l := chain(4)
	version, in, shown := d.Version(), d.Ops(), d.Show()
	for i, o := range l {
		tell(t, d, m, o)
		if d.State() != s || s.Text(dot(1, 1)) != "abc"[:i] || len(s.Lines(root)) != 1 {
			t.Errorf("the state of before is %v", s.Lines(root))
		}
	}
	tell(t, d, m, moved(2, 2, 9, dot(1, 1), trash, 1, 1, 2, 1))
	if len(s.Lines(root)) != 1 {
		t.Errorf("with one that waits the state is %v", s.Lines(root))
	}
	tell(t, d, m, made(2, 1, 2))
	if got := s.Lines(trash); !slices.Equal(got, []api.Line{{Block: dot(1, 1), Text: "abc"}}) {
		t.Errorf("in the trash is %v", got)
	}
	if len(version)+len(in) != 0 || shown != "" {
		t.Errorf("what was told is %v, %v, %q", version, in, shown)
	}
	check(t, "told", d, m)
}

// P13.3: who changes the state changes what is shown, and nothing else.
func TestStateChanged(t *testing.T) {
	d, m := of(t, chain(3)...)
	d.State().Apply(put(7, 1, 9, dot(1, 1), dot(1, 3), '!'))
	if d.Show() != "- ab!\n" || !same(d.Ops(), m.ops()) || !slices.Equal(d.Version(), vec(1, 3)) || d.Time() != 3 {
		t.Errorf("it is shown as %q, with %v", d.Show(), ids(d.Ops()))
	}
}

// P13.3: Show writes texts as outline.Show does.
func TestShow(t *testing.T) {
	d, _ := of(t, made(1, 1, 1), put(1, 2, 2, dot(1, 1), none, '\\', 1, 1), put(1, 3, 3, dot(1, 1), dot(1, 2), '\n', 1, 2), moved(1, 4, 4, dot(1, 4), dot(1, 1), 1, 3), put(1, 5, 5, dot(1, 4), none, 0x1f600, 1, 4))
	if d.Show() != "- \\\\\\n\n  - \U0001f600\n" {
		t.Errorf("it is shown as %q", d.Show())
	}
}

// P13.4: each of them of nil.
func TestNil(t *testing.T) {
	var d *doc.Doc
	for _, o := range append(hedge(), wrong()...) {
		if got, e := d.Deliver(o); e != api.ErrArg || len(got) != 0 {
			t.Errorf("Deliver is %v, %d", got, e)
		}
	}
	if len(d.Version()) != 0 || d.Time() != 0 || len(d.Ops()) != 0 || len(d.Waiting()) != 0 || d.State() != nil || d.Show() != "" {
		t.Errorf("of nil: %v, %d, %v, %v, %v, %q", d.Version(), d.Time(), d.Ops(), d.Waiting(), d.State(), d.Show())
	}
	for _, x := range []api.Dot{none, root, trash, dot(1, 1)} {
		if o, there := d.Get(x); there || !ops.Same(o, api.Op{}) {
			t.Errorf("Get is %v, %v", o, there)
		}
	}
	for _, v := range []api.Vector{nil, vec(1, 1), vec(0, 0)} {
		for _, most := range []int{-1, 0, 1, math.MaxInt} {
			if l := d.Since(v, most); len(l) != 0 {
				t.Errorf("Since is %v", l)
			}
		}
	}
}
