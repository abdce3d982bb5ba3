package branch_test

import (
	"reflect"
	"slices"
	"testing"

	"osier/api"
	"osier/branch"
	"osier/doc"
)

// merging is the Merge of two branches.
func merging(b *branch.Branches, into, from string) func() ([]api.Op, api.Errno) {
	return func() ([]api.Op, api.Errno) { return b.Merge(into, from) }
}

// checkMerge looks that a Merge takes in just these, in that order, with that error, and that it changes no other branch.
func checkMerge(t *testing.T, b *branch.Branches, into, from string, want api.Errno, l ...api.Op) {
	t.Helper()
	was := map[string]look{}
	for _, name := range b.Names() {
		was[name] = lookAt(b.Doc(name))
	}
	got, e := b.Merge(into, from)
	if e != want || !same(got, l) {
		t.Errorf("Merge of %s into %s: %v, error %d, not %v, error %d", from, into, ids(got), e, ids(l), want)
	}
	for _, name := range b.Names() {
		if name != into && !reflect.DeepEqual(lookAt(b.Doc(name)), was[name]) {
			t.Errorf("Merge of %s into %s changed %s", from, into, name)
		}
	}
}

// mains are branches main and a, that are told some operations each.
func mains(t *testing.T, main, a []api.Op) *branch.Branches {
	t.Helper()
	b := newAt(t, 3)
	fork(t, b, "a", "main")
	deliver(t, b, "main", main...)
	deliver(t, b, "a", a...)
	return b
}

// P17.5: Deliver answers as the branch's document would, and tells that one alone.
func TestDeliver(t *testing.T) {
	b, d := newAt(t, 3), doc.New()
	fork(t, b, "a", "main")
	empty := lookAt(doc.New())
	l := some()
	wrong := made(4, 1, 0)
	for _, o := range []api.Op{l[6], l[3], l[0], l[0], wrong, l[5], l[1], {}, l[2], l[2], made(4, 1, 2, 2, 2), made(4, 1, 3, 2, 2), l[6], l[4], made(5, 2, 3, 5, 1), made(5, 1, 3), made(5, 2, 4, 5, 1)} {
		want, f := d.Deliver(o)
		got, e := b.Deliver("a", o)
		if e != f || !same(got, want) {
			t.Errorf("Deliver of %v: %v, error %d, not %v, error %d", o.Id, ids(got), e, ids(want), f)
		}
		if !reflect.DeepEqual(lookAt(b.Doc("a")), lookAt(d)) || !reflect.DeepEqual(lookAt(b.Doc("main")), empty) {
			t.Errorf("Deliver of %v: a shows %q, main %q", o.Id, b.Doc("a").Show(), b.Doc("main").Show())
		}
	}
	if len(d.Ops()) != 10 {
		t.Errorf("there are %v", ids(d.Ops()))
	}
}

// P17.5: ErrName, if there is no branch to deliver to, also of what may not be.
func TestDeliverNames(t *testing.T) {
	b := told(t)
	for _, name := range append(notNames(), "a", "Main", "mai", "main-") {
		for _, o := range []api.Op{{}, made(4, 1, 9), some()[0]} {
			checkStays(t, "no branch", b, api.ErrName, func() ([]api.Op, api.Errno) { return b.Deliver(name, o) })
		}
	}
}

// P17.5: Merge takes in what the other one has, in its order, and nothing that is there.
func TestMerge(t *testing.T) {
	l := some()
	b := mains(t, []api.Op{l[0], l[2]}, []api.Op{l[1], l[0], l[3]})
	checkMerge(t, b, "main", "a", api.OK, l[1], l[3])
	checkOps(t, "main", b.Doc("main"), l[:4]...)
	checkMerge(t, b, "a", "main", api.OK, l[2])
	checkOps(t, "a", b.Doc("a"), l[:4]...)
	deliver(t, b, "main", l[4:]...)
	checkMerge(t, b, "a", "main", api.OK, l[4:]...)
	checkMerge(t, b, "a", "main", api.OK)
	checkMerge(t, b, "main", "a", api.OK)
	fork(t, b, "b", "main")
	checkMerge(t, b, "b", "main", api.OK)
	if e := b.Fork("c", "main", nil); e != api.OK {
		t.Fatalf("Fork: error %d", e)
	}
	checkMerge(t, b, "main", "c", api.OK)
	checkMerge(t, b, "c", "main", api.OK, l...)
}

// P17.5: ErrName, unless both are there, and nothing changes.
func TestMergeNames(t *testing.T) {
	b := told(t)
	fork(t, b, "a", "main")
	must(t)(b.Edit("a", "u", creating(root, 0)))
	must(t)(b.Edit("main", "u", creating(root, 0)))
	for _, name := range append(notNames(), "b", "Main", "mai", "main-", "A") {
		checkStays(t, "none into", b, api.ErrName, merging(b, name, "a"))
		checkStays(t, "none from", b, api.ErrName, merging(b, "main", name))
		checkStays(t, "none of both", b, api.ErrName, merging(b, name, name))
	}
}

// P17.5: of a branch into itself nothing is taken in, and nothing changes.
func TestMergeItself(t *testing.T) {
	b := told(t)
	fork(t, b, "a", "main")
	for _, name := range b.Names() {
		checkStays(t, "itself", b, api.OK, merging(b, name, name))
		must(t)(b.Edit(name, "u", creating(root, 0)))
		checkStays(t, "itself", b, api.OK, merging(b, name, name))
	}
}

// P17.5: what waits in the other one isn't merged.
func TestMergeWaiting(t *testing.T) {
	b := mains(t, nil, []api.Op{made(1, 1, 1), made(2, 2, 2, 2, 1), made(1, 3, 3, 1, 2)})
	checkMerge(t, b, "main", "a", api.OK, made(1, 1, 1))
	if len(b.Doc("main").Waiting()) != 0 || len(b.Doc("a").Waiting()) != 2 {
		t.Errorf("%v wait in main, %v in a", b.Doc("main").Waiting(), b.Doc("a").Waiting())
	}
}

// P17.5: what waited is told where it is taken in by what is merged: each behind that one, in order; also what the other one hasn't.
func TestMergeFrees(t *testing.T) {
	first, second, third := made(4, 1, 1), made(5, 1, 2), made(6, 1, 3, 5, 1)
	early, own, late := made(9, 1, 50, 4, 1), made(9, 2, 51, 9, 1), made(8, 1, 4, 6, 1)
	b := mains(t, []api.Op{own, third, late, early}, []api.Op{first, second, third})
	checkMerge(t, b, "main", "a", api.OK, first, early, own, second, third, late)
	if len(b.Doc("main").Waiting()) != 0 {
		t.Errorf("%v wait", b.Doc("main").Waiting())
	}
	checkMerge(t, b, "a", "main", api.OK, late, early, own)
}

// P17.5: ErrTwice goes on: of what was taken in, and of what waits and goes on waiting; whether it is the same or another one of that Id.
func TestMergeTwice(t *testing.T) {
	one, two, three := made(4, 1, 1), made(5, 1, 2), made(6, 1, 3, 4, 1)
	b := mains(t, []api.Op{one, keyed(two, "c")}, []api.Op{one, two, three})
	checkMerge(t, b, "main", "a", api.OK, three)
	checkOps(t, "main", b.Doc("main"), one, keyed(two, "c"), three)
	// Here another one of that Id waits for what isn't there: what leans on it waits then, too, and that is no error.
	other := made(5, 1, 9, 7, 1)
	b = mains(t, []api.Op{other}, []api.Op{one, two, made(5, 2, 3, 5, 1), made(8, 1, 4)})
	checkMerge(t, b, "main", "a", api.OK, one, made(8, 1, 4))
	if got := ids(b.Doc("main").Waiting()); !slices.Equal(got, []api.Dot{dot(5, 2), dot(5, 1)}) {
		t.Errorf("%v wait", got)
	}
}

// P17.5: with another error it ends there: what was taken in ahead of it is told beside it, and stays; what is behind it isn't told.
func TestMergeEnds(t *testing.T) {
	// Where one Id is two operations, what leans on one of them may be late behind the other one.
	first, one, late, last := made(4, 1, 1), made(5, 1, 2), made(5, 2, 3, 5, 1), made(6, 1, 4)
	later := made(5, 1, 9)
	b := mains(t, []api.Op{later}, []api.Op{first, one, late, last})
	for n := range 3 {
		if n > 0 {
			checkMerge(t, b, "main", "a", api.ErrOp)
		} else {
			checkMerge(t, b, "main", "a", api.ErrOp, first)
		}
		checkOps(t, "main", b.Doc("main"), first, later)
	}
	// One that waited and is thrown away as late is no error.
	b = mains(t, []api.Op{made(7, 1, 1, 4, 1)}, []api.Op{first, last})
	checkMerge(t, b, "main", "a", api.OK, first, last)
}

// P17.5: ErrLimit, where the document is full: beside what there was room for; what is there already is no error, also there.
func TestMergeLimit(t *testing.T) {
	l := filling(api.MaxOps)
	b := mains(t, l[:api.MaxOps-2], []api.Op{made(4, 1, 1), l[0], made(5, 1, 2), made(6, 1, 3), made(7, 1, 4)})
	checkMerge(t, b, "main", "a", api.ErrLimit, made(4, 1, 1), made(5, 1, 2))
	checkMerge(t, b, "main", "a", api.ErrLimit)
	checkOps(t, "main", b.Doc("main"), slices.Concat([]api.Op{made(4, 1, 1), l[0], made(5, 1, 2)}, l[1:api.MaxOps-2])...)
}

// P17.5: what is merged is new memory.
func TestMergedIsNew(t *testing.T) {
	b := mains(t, nil, some())
	got := must(t)(b.Merge("main", "a"))
	for i := range got {
		clear(got[i].Deps)
		got[i] = api.Op{}
	}
	for _, name := range b.Names() {
		checkOps(t, name, b.Doc(name), some()...)
	}
}

// P17.5: what is merged isn't the user's to undo: a stack is of what was done at that branch.
func TestMergeAndUndo(t *testing.T) {
	b := newAt(t, 3)
	must(t)(b.Edit("main", "u", creating(root, 0)))
	fork(t, b, "a", "main")
	must(t)(b.Edit("a", "u", throwing(dot(768, 1))))
	must(t)(b.Merge("main", "a"))
	checkIssued(t, "u in main", b, "main", "u", undoing, keyed(moved(768, 2, 3, dot(768, 1), trash, 768, 1, 769, 1), "n"))
	checkRefused(t, "u in main", b, "main", "u", undoing, api.ErrEmpty)
	must(t)(b.Merge("a", "main"))
	checkIssued(t, "u in a", b, "a", "u", undoing, moved(769, 2, 4, dot(768, 1), root, 768, 2, 769, 1))
}
