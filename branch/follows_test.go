package branch_test

import (
	"math/rand/v2"
	"reflect"
	"slices"
	"strconv"
	"testing"

	"osier/api"
	"osier/branch"
	"osier/clock"
	"osier/doc"
	"osier/history"
	"osier/undo"
	"osier/vector"
	"osier/view"
)

// one is a branch by the words of the chapter, with its actor, and the stacks of its users.
type one struct {
	name   string
	actor  int
	d      *doc.Doc
	stacks map[string]*undo.Stack
}

// slow are branches by the words of the chapter.
type slow struct {
	replica int
	row     []*one
}

// slowAt are the branches of a replica.
func slowAt(replica int) *slow {
	return &slow{replica: replica, row: []*one{{name: "main", actor: 256 * replica, d: doc.New(), stacks: map[string]*undo.Stack{}}}}
}

// of is the branch of a name.
func (m *slow) of(name string) *one {
	for _, x := range m.row {
		if x.name == name {
			return x
		}
	}
	return nil
}

// fork is a Fork.
func (m *slow) fork(name, from string, v api.Vector) api.Errno {
	if !branch.May(name) || m.of(name) != nil || m.of(from) == nil {
		return api.ErrName
	}
	if len(m.row) == api.MaxBranches {
		return api.ErrLimit
	}
	l, e := history.Checkout(m.of(from).d.Ops(), v)
	if e != api.OK {
		return e
	}
	x := &one{name: name, actor: 256*m.replica + len(m.row), d: doc.New(), stacks: map[string]*undo.Stack{}}
	for _, o := range l {
		x.d.Deliver(o)
	}
	m.row = append(m.row, x)
	return api.OK
}

// user is what a user does at a branch.
func (m *slow) user(name, user string, f func(s *undo.Stack, d *doc.Doc, c *clock.Clock) ([]api.Op, api.Errno)) ([]api.Op, api.Errno) {
	x := m.of(name)
	if x == nil || !branch.May(user) {
		return nil, api.ErrName
	}
	if x.stacks[user] == nil {
		x.stacks[user] = undo.New()
	}
	seq := 0
	for _, o := range x.d.Ops() {
		if o.Id.Act == x.actor {
			seq++
		}
	}
	c, _ := clock.New(x.actor, seq, x.d.Time())
	return f(x.stacks[user], x.d, c)
}

// merge is a Merge.
func (m *slow) merge(into, from string) ([]api.Op, api.Errno) {
	if m.of(into) == nil || m.of(from) == nil {
		return nil, api.ErrName
	}
	var out []api.Op
	for _, o := range m.of(from).d.Ops() {
		l, e := m.of(into).d.Deliver(o)
		out = append(out, l...)
		if e != api.OK && e != api.ErrTwice {
			return out, e
		}
	}
	return out, api.OK
}

// both are branches, and what they are by the words of the chapter.
type both struct {
	b *branch.Branches
	m *slow
}

// bothAt are both at a replica.
func bothAt(t *testing.T, replica int) both {
	t.Helper()
	return both{newAt(t, replica), slowAt(replica)}
}

// check looks whether both are the same.
func (x both) check(t *testing.T, what string) {
	t.Helper()
	var want []any
	for _, y := range x.m.row {
		want = append(want, y.name, y.actor, true, x.b.Doc(y.name), lookAt(y.d))
	}
	if got := seen(x.b); !reflect.DeepEqual(got, want) {
		t.Fatalf("%s: there is\n%+v, not\n%+v", what, got, want)
	}
}

// name is a name by chance, mostly that of a branch that is there.
func (x both) name(r *rand.Rand) string {
	if r.IntN(12) == 0 {
		return []string{"", "b.c", "none", "Main"}[r.IntN(4)]
	}
	return x.m.row[r.IntN(len(x.m.row))].name
}

// version is a version by chance of a branch, if there is one of that name.
func (x both) version(r *rand.Rand, name string) api.Vector {
	if x.m.of(name) == nil {
		return vec(1, 1)
	}
	d := x.m.of(name).d
	l := d.Ops()
	if r.IntN(3) == 0 || len(l) == 0 {
		return d.Version()
	}
	v := history.Saw(l[r.IntN(len(l))])
	switch r.IntN(5) {
	case 0:
		return vector.With(v, dot(r.IntN(5), r.IntN(5)))
	case 1:
		return vector.Join(v, history.Saw(l[r.IntN(len(l))]))
	case 2:
		return v[:r.IntN(len(v)+1)]
	}
	return v
}

// edit is an edit by chance at a branch, mostly such as can be done.
func (x both) edit(r *rand.Rand, name string) api.Edit {
	blocks := []api.Dot{root}
	if y := x.m.of(name); y != nil {
		blocks = append(blocks, y.d.State().Tree().Blocks()...)
	}
	// Mostly one of the first few, in which several write then.
	pick := func() api.Dot { return blocks[r.IntN(1+r.IntN(len(blocks)))] }
	return api.Edit{Kind: r.IntN(6), Block: pick(), Parent: pick(), Index: r.IntN(3) * r.IntN(2), Count: r.IntN(4), Text: "abc"[:r.IntN(4)]}
}

// step does one thing by chance at both, and looks that both answer the same.
func (x both) step(t *testing.T, r *rand.Rand, from both) api.Errno {
	t.Helper()
	name, other, user := x.name(r), x.name(r), []string{"u", "v", "w", "main", "u v"}[r.IntN(5)]
	var got, want []api.Op
	var e, f api.Errno
	switch n := r.IntN(20); {
	case n == 0:
		fresh, v := "b"+strconv.Itoa(r.IntN(12)), x.version(r, other)
		e, f = x.b.Fork(fresh, other, v), x.m.fork(fresh, other, v)
	case n < 9:
		edit := x.edit(r, name)
		got, e = x.b.Edit(name, user, edit)
		want, f = x.m.user(name, user, func(s *undo.Stack, d *doc.Doc, c *clock.Clock) ([]api.Op, api.Errno) { return s.Do(d, c, edit) })
	case n < 12:
		got, e = x.b.Undo(name, user)
		want, f = x.m.user(name, user, (*undo.Stack).Undo)
	case n < 14:
		got, e = x.b.Redo(name, user)
		want, f = x.m.user(name, user, (*undo.Stack).Redo)
	case n < 15:
		got, e = x.b.Merge(name, other)
		want, f = x.m.merge(name, other)
	default:
		l := from.b.Doc(from.b.Names()[r.IntN(len(from.b.Names()))]).Ops()
		o := append(l, api.Op{})[r.IntN(len(l)+1)]
		got, e = x.b.Deliver(name, o)
		want, f = nil, api.ErrName
		if y := x.m.of(name); y != nil {
			want, f = y.d.Deliver(o)
		}
	}
	if e != f || !same(got, want) {
		t.Fatalf("%v, error %d, not %v, error %d", ids(got), e, ids(want), f)
	}
	return e
}

// P17.1 to P17.5: whatever is done at two replicas, each answers what the words of the chapter say, and shows that.
func TestByTheWords(t *testing.T) {
	r := rand.New(rand.NewPCG(17, 1))
	errors := map[api.Errno]int{}
	for range 30 {
		x, y := bothAt(t, r.IntN(3)), bothAt(t, 3+r.IntN(3))
		for n := range 500 {
			errors[x.step(t, r, y)]++
			errors[y.step(t, r, x)]++
			if n%25 == 0 {
				x.check(t, "step by step")
				y.check(t, "step by step")
			}
		}
		x.check(t, "in the end")
		y.check(t, "in the end")
	}
	for _, e := range []api.Errno{api.OK, api.ErrArg, api.ErrOp, api.ErrTwice, api.ErrBlock, api.ErrIndex, api.ErrCycle, api.ErrEmpty, api.ErrGone, api.ErrPast, api.ErrName} {
		if errors[e] == 0 {
			t.Errorf("there was no error %d", e)
		}
	}
}

// grown are branches at which all is done by chance but what comes from elsewhere: so no operation waits, and each Id is one operation.
func grown(t *testing.T, r *rand.Rand, replica, steps int) *branch.Branches {
	t.Helper()
	x := bothAt(t, replica)
	nowhere := both{newAt(t, 9), slowAt(9)}
	for range steps {
		x.step(t, r, nowhere)
	}
	return x.b
}

// P17.7: merging changes nothing in the one that is merged; into has what both had, and shows what their union comes to; merged once more nothing is taken in; merged both ways both show the same.
func TestMergeIsUnion(t *testing.T) {
	r := rand.New(rand.NewPCG(17, 7))
	merged := 0
	for range 60 {
		b := grown(t, r, 4, 120)
		names := b.Names()
		for range 8 {
			into, from := names[r.IntN(len(names))], names[r.IntN(len(names))]
			was, had := lookAt(b.Doc(from)), b.Doc(into).Ops()
			union := history.Union(had, b.Doc(from).Ops())
			versions := vector.Join(b.Doc(into).Version(), b.Doc(from).Version())
			got := must(t)(b.Merge(into, from))
			if into != from && !reflect.DeepEqual(lookAt(b.Doc(from)), was) {
				t.Fatalf("Merge of %s into %s changed what was merged", from, into)
			}
			checkOps(t, "the union", b.Doc(into), union...)
			if b.Doc(into).Show() != view.View(union) || !vector.Same(b.Doc(into).Version(), versions) || !same(history.Union(had, got), union) || len(had)+len(got) != len(union) {
				t.Fatalf("Merge of %s into %s shows %q, not %q", from, into, b.Doc(into).Show(), view.View(union))
			}
			merged += len(got)
			shown := seen(b)
			if got := must(t)(b.Merge(into, from)); len(got) != 0 || !reflect.DeepEqual(seen(b), shown) {
				t.Fatalf("merged once more there is %v", ids(got))
			}
			must(t)(b.Merge(from, into))
			if b.Doc(from).Show() != b.Doc(into).Show() || !vector.Same(b.Doc(from).Version(), b.Doc(into).Version()) {
				t.Fatalf("merged both ways %s shows %q, %s %q", into, b.Doc(into).Show(), from, b.Doc(from).Show())
			}
		}
	}
	if merged < 100 {
		t.Errorf("but %d were merged", merged)
	}
}

// P17.7: what is edited in one branch isn't seen in another one till it is merged; then it is.
func TestEditsApart(t *testing.T) {
	r := rand.New(rand.NewPCG(17, 8))
	for range 30 {
		b := grown(t, r, 4, 60)
		fork(t, b, "last", "main")
		names := b.Names()
		for range 10 {
			at := names[r.IntN(len(names))]
			was := map[string]look{}
			for _, name := range names {
				was[name] = lookAt(b.Doc(name))
			}
			l := slices.Concat(must(t)(b.Edit(at, "x", creating(root, 0))), must(t)(b.Undo(at, "x")), must(t)(b.Redo(at, "x")))
			l = append(l, must(t)(b.Edit(at, "y", writing(l[0].Id, 0, "ab")))...)
			for _, name := range names {
				if name != at && !reflect.DeepEqual(lookAt(b.Doc(name)), was[name]) {
					t.Fatalf("what is edited in %s is seen in %s", at, name)
				}
			}
			to := names[r.IntN(len(names))]
			must(t)(b.Merge(to, at))
			for _, o := range l {
				if _, there := b.Doc(to).Get(o.Id); !there {
					t.Fatalf("%v isn't merged", o.Id)
				}
			}
			if b.Doc(to).State().Text(l[0].Id) != "ab" {
				t.Fatalf("what is merged is %q", b.Doc(to).State().Text(l[0].Id))
			}
		}
	}
}

// P17.7, Q2: whichever branches are merged into one another, in whatever order, those that took in the same show the same; no two operations have one Id.
func TestSameOperations(t *testing.T) {
	r := rand.New(rand.NewPCG(17, 9))
	for range 30 {
		b := grown(t, r, 4, 100)
		names := b.Names()
		var all []api.Op
		for _, name := range names {
			for _, o := range b.Doc(name).Ops() {
				at := slices.IndexFunc(all, func(x api.Op) bool { return x.Id == o.Id })
				if at >= 0 && !same(all[at:at+1], []api.Op{o}) {
					t.Fatalf("%v is two operations", o.Id)
				}
				all = append(all, o)
			}
		}
		for range names {
			for _, into := range r.Perm(len(names)) {
				for _, from := range r.Perm(len(names)) {
					must(t)(b.Merge(names[into], names[from]))
				}
			}
		}
		for _, name := range names {
			if b.Doc(name).Show() != view.View(all) || len(b.Doc(name).Ops()) != len(history.Union(all, nil)) {
				t.Fatalf("%s shows %q, not %q", name, b.Doc(name).Show(), view.View(all))
			}
		}
	}
}

// FuzzMay holds May against the chapter's words.
func FuzzMay(f *testing.F) {
	for _, name := range append(notNames(), "main", "A-9") {
		f.Add(name)
	}
	f.Fuzz(func(t *testing.T, name string) {
		want := len(name) >= 1 && len(name) <= 32
		for _, c := range name {
			want = want && (c == '-' || c >= '0' && c <= '9' || c >= 'A' && c <= 'Z' || c >= 'a' && c <= 'z')
		}
		if branch.May(name) != want {
			t.Errorf("May of %q is %v", name, !want)
		}
	})
}
