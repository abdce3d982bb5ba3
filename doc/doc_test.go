package doc_test

import (
	"cmp"
	"math"
	"slices"
	"testing"

	"osier/api"
	"osier/doc"
	"osier/ops"
	"osier/outline"
	"osier/view"
)

// The calls, with just the signatures that the chapter lists.
var (
	_ func() *doc.Doc                                           = doc.New
	_ func(d *doc.Doc, o api.Op) ([]api.Op, api.Errno)          = (*doc.Doc).Deliver
	_ func(d *doc.Doc) api.Vector                               = (*doc.Doc).Version
	_ func(d *doc.Doc) int                                      = (*doc.Doc).Time
	_ func(d *doc.Doc) []api.Op                                 = (*doc.Doc).Ops
	_ func(d *doc.Doc) []api.Op                                 = (*doc.Doc).Waiting
	_ func(d *doc.Doc, id api.Dot) (api.Op, bool)               = (*doc.Doc).Get
	_ func(d *doc.Doc, v api.Vector, most int) (since []api.Op) = (*doc.Doc).Since
	_ func(d *doc.Doc) *view.State                              = (*doc.Doc).State
	_ func(d *doc.Doc) string                                   = (*doc.Doc).Show
)

// dot is the dot act.seq.
func dot(act, seq int) api.Dot { return api.Dot{Act: act, Seq: seq} }

var none, root, trash = api.Dot{}, api.Root(), api.Trash()

// vec is a vector of Acts and Seqs, by turns.
func vec(n ...int) api.Vector {
	var v api.Vector
	for i := 0; i+1 < len(n); i += 2 {
		v = append(v, dot(n[i], n[i+1]))
	}
	return v
}

// made is the making of a block under Root, with Deps of Acts and Seqs, by turns.
func made(act, seq, time int, deps ...int) api.Op {
	return moved(act, seq, time, dot(act, seq), root, deps...)
}

// moved is a move of a block.
func moved(act, seq, time int, block, parent api.Dot, deps ...int) api.Op {
	return api.Op{Id: dot(act, seq), Time: time, Deps: vec(deps...), Kind: api.Move, Block: block, Parent: parent, Key: "n"}
}

// put is a character that is put into a block, at the right side of another one.
func put(act, seq, time int, block, at api.Dot, char int, deps ...int) api.Op {
	return api.Op{Id: dot(act, seq), Time: time, Deps: vec(deps...), Kind: api.Insert, Block: block, At: at, Side: api.Right, Char: char}
}

// taken is a character that is taken out of a block's sight.
func taken(act, seq, time int, block, at api.Dot, deps ...int) api.Op {
	return api.Op{Id: dot(act, seq), Time: time, Deps: vec(deps...), Kind: api.Delete, Block: block, At: at}
}

// slow is a document by the words of the chapter: what was taken in, in that order, and what waits.
type slow struct {
	in, waits []api.Op
}

// less is below 0 or above 0, as one operation comes ahead of another one by ops.Less, or behind it.
func less(a, b api.Op) int {
	return cmp.Or(cmp.Compare(a.Time, b.Time), cmp.Compare(a.Id.Act, b.Id.Act), cmp.Compare(a.Id.Seq, b.Id.Seq))
}

// is tells whether one of an Id is in a row.
func is(l []api.Op, id api.Dot) bool {
	return slices.ContainsFunc(l, func(o api.Op) bool { return o.Id == id })
}

// has tells whether a vector has a dot.
func has(v api.Vector, d api.Dot) bool {
	return slices.ContainsFunc(v, func(x api.Dot) bool { return x.Act == d.Act && x.Seq >= d.Seq })
}

// ready tells whether all that an operation's Deps have was taken in.
func (m *slow) ready(o api.Op) bool {
	for _, d := range o.Deps {
		for seq := 1; seq <= d.Seq; seq++ {
			if !is(m.in, dot(d.Act, seq)) {
				return false
			}
		}
	}
	return true
}

// late tells whether an operation's Time isn't above that of all taken-in ones that its Deps have.
func (m *slow) late(o api.Op) bool {
	return slices.ContainsFunc(m.in, func(x api.Op) bool { return has(o.Deps, x.Id) && x.Time >= o.Time })
}

// deliver is told an operation.
func (m *slow) deliver(o api.Op) ([]api.Op, api.Errno) {
	switch {
	case !ops.Check(o):
		return nil, api.ErrOp
	case is(m.in, o.Id) || is(m.waits, o.Id):
		return nil, api.ErrTwice
	case len(m.in)+len(m.waits) == api.MaxOps:
		return nil, api.ErrLimit
	}
	m.waits = append(m.waits, o)
	slices.SortFunc(m.waits, less)
	was := len(m.in)
	for {
		at := slices.IndexFunc(m.waits, m.ready)
		if at < 0 {
			break
		}
		if !m.late(m.waits[at]) {
			m.in = append(m.in, m.waits[at])
		}
		m.waits = slices.Delete(m.waits, at, at+1)
	}
	if !is(m.in, o.Id) && !is(m.waits, o.Id) {
		return nil, api.ErrOp
	}
	return slices.Clone(m.in[was:]), api.OK
}

// ops are those that were taken in, by ops.Less.
func (m *slow) ops() []api.Op { return slices.SortedFunc(slices.Values(m.in), less) }

// since are those of them that a vector hasn't, the first so many.
func (m *slow) since(v api.Vector, most int) []api.Op {
	l := slices.DeleteFunc(m.ops(), func(o api.Op) bool { return has(v, o.Id) })
	return l[:max(0, min(most, len(l)))]
}

// version is the least vector that has all that were taken in.
func (m *slow) version() api.Vector {
	most := map[int]int{}
	for _, o := range m.in {
		most[o.Id.Act] = max(most[o.Id.Act], o.Id.Seq)
	}
	var v api.Vector
	for act, seq := range most {
		v = append(v, dot(act, seq))
	}
	slices.SortFunc(v, func(x, y api.Dot) int { return cmp.Compare(x.Act, y.Act) })
	return v
}

// same tells whether two rows are the same.
func same(a, b []api.Op) bool { return slices.EqualFunc(a, b, ops.Same) }

// ids are the identities of a row.
func ids(l []api.Op) []api.Dot {
	var out []api.Dot
	for _, o := range l {
		out = append(out, o.Id)
	}
	return out
}

// check looks at a document, in all that it tells.
func check(t *testing.T, what string, d *doc.Doc, m *slow) {
	t.Helper()
	if got := d.Ops(); !same(got, m.ops()) {
		t.Fatalf("%s: Ops are %v, not %v", what, ids(got), ids(m.ops()))
	}
	if got := d.Waiting(); !same(got, m.waits) {
		t.Fatalf("%s: Waiting are %v, not %v", what, ids(got), ids(m.waits))
	}
	if got := d.Version(); !slices.Equal(got, m.version()) {
		t.Fatalf("%s: Version is %v, not %v", what, got, m.version())
	}
	want := 0
	for _, o := range m.in {
		want = max(want, o.Time)
	}
	if got := d.Time(); got != want {
		t.Fatalf("%s: Time is %d, not %d", what, got, want)
	}
	checkGet(t, what, d, m)
	checkSince(t, what, d, m)
	s := view.New()
	for _, o := range m.in {
		s.Apply(o)
	}
	checkState(t, what, d, s)
}

// checkGet looks at Get, of what was taken in, of what waits, and of others.
func checkGet(t *testing.T, what string, d *doc.Doc, m *slow) {
	t.Helper()
	for _, o := range m.in {
		if got, there := d.Get(o.Id); !there || !ops.Same(got, o) {
			t.Fatalf("%s: Get of %v is %v, %v", what, o.Id, got, there)
		}
	}
	others := []api.Dot{none, root, trash, dot(-1, 1), dot(1, 0), dot(1, -1), dot(99, 1), dot(1, 1<<30), dot(1, math.MaxInt), dot(math.MinInt, math.MinInt)}
	for _, x := range append(others, ids(m.waits)...) {
		if got, there := d.Get(x); there || !ops.Same(got, api.Op{}) {
			t.Fatalf("%s: Get of %v is %v, %v", what, x, got, there)
		}
	}
}

// checkSince looks at Since, of vectors that have all, some and none.
func checkSince(t *testing.T, what string, d *doc.Doc, m *slow) {
	t.Helper()
	vectors := []api.Vector{nil, {}, m.version(), vec(1, 1), vec(99, 1<<30)}
	for _, o := range m.waits {
		vectors = append(vectors, o.Deps)
	}
	if n := len(m.in); n > 0 {
		vectors = append(vectors, m.in[n/2].Deps, m.in[n-1].Deps, api.Vector{m.in[0].Id}, m.version()[1:])
	}
	for _, v := range vectors {
		for _, most := range []int{math.MinInt, -1, 0, 1, 2, len(m.in) - 1, len(m.in), len(m.in) + 1, math.MaxInt} {
			if got, want := d.Since(v, most), m.since(v, most); !same(got, want) {
				t.Fatalf("%s: Since %v, %d is %v, not %v", what, v, most, ids(got), ids(want))
			}
		}
	}
}

// checkState looks at what was taken in comes to, and how it is shown.
func checkState(t *testing.T, what string, d *doc.Doc, want *view.State) {
	t.Helper()
	got := d.State()
	if got == nil || got != d.State() {
		t.Fatalf("%s: State is %p, then %p", what, got, d.State())
	}
	if d.Show() != outline.Show(want.Lines(root)) {
		t.Fatalf("%s: Show is %q, not %q", what, d.Show(), outline.Show(want.Lines(root)))
	}
	if !slices.Equal(got.Lines(root), want.Lines(root)) || !slices.Equal(got.Lines(trash), want.Lines(trash)) {
		t.Fatalf("%s: the lines are %v and %v, not %v and %v", what, got.Lines(root), got.Lines(trash), want.Lines(root), want.Lines(trash))
	}
	for _, o := range append(d.Ops(), d.Waiting()...) {
		for _, x := range []api.Dot{o.Id, o.Block} {
			if (got.Chars(x) == nil) != (want.Chars(x) == nil) || !slices.Equal(got.Chars(x).All(), want.Chars(x).All()) || got.Text(x) != want.Text(x) {
				t.Fatalf("%s: the text of %v is %q, not %q", what, x, got.Text(x), want.Text(x))
			}
			p, key, there := got.Tree().Parent(x)
			if q, k, is := want.Tree().Parent(x); p != q || key != k || there != is || got.Tree().Took(x) != want.Tree().Took(x) {
				t.Fatalf("%s: %v lies under %v, %q, %v, not under %v, %q, %v", what, x, p, key, there, q, k, is)
			}
		}
	}
}

// tell tells both of operations, and looks at what is answered.
func tell(t *testing.T, d *doc.Doc, m *slow, l ...api.Op) {
	t.Helper()
	for _, o := range l {
		got, e := d.Deliver(o)
		if want, error := m.deliver(o); e != error || !same(got, want) {
			t.Fatalf("Deliver of %v is %v, %d, not %v, %d", o.Id, ids(got), e, ids(want), error)
		}
	}
}

// of is a document that was told operations, one by one, and the same by the chapter's words.
func of(t *testing.T, l ...api.Op) (*doc.Doc, *slow) {
	t.Helper()
	d, m := doc.New(), &slow{}
	tell(t, d, m, l...)
	check(t, "told", d, m)
	return d, m
}

// checkTold tells of one operation, and looks at what is taken in by it.
func checkTold(t *testing.T, d *doc.Doc, o api.Op, want ...api.Op) {
	t.Helper()
	if got, e := d.Deliver(o); e != api.OK || !same(got, want) {
		t.Errorf("Deliver of %v is %v, %d, not %v", o.Id, ids(got), e, ids(want))
	}
}

// checkRefused tells of one operation that is refused, and looks that nothing changes.
func checkRefused(t *testing.T, d *doc.Doc, m *slow, o api.Op, want api.Errno) {
	t.Helper()
	if got, e := d.Deliver(o); e != want || len(got) != 0 {
		t.Errorf("Deliver of %+v is %v, %d, not error %d", o, ids(got), e, want)
	}
	check(t, "refused", d, m)
}
