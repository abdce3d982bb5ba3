package branch_test

import (
	"reflect"
	"slices"
	"strconv"
	"testing"

	"osier/api"
	"osier/branch"
	"osier/view"
)

// some are operations of three actors that know of some of one another's, by their times.
func some() []api.Op {
	return []api.Op{
		made(1, 1, 1), made(2, 1, 1), put(1, 2, 2, dot(1, 1), none, 'x', 1, 1), moved(2, 2, 2, dot(1, 1), dot(2, 1), 1, 1, 2, 1),
		moved(1, 3, 3, dot(1, 1), trash, 1, 2, 2, 1), put(3, 1, 4, dot(1, 1), dot(1, 2), 'y', 1, 2, 2, 2), taken(3, 2, 5, dot(1, 1), dot(1, 2), 1, 2, 2, 2, 3, 1),
	}
}

// told are branches whose main one has some operations, and in which two wait.
func told(t *testing.T) *branch.Branches {
	t.Helper()
	b := newAt(t, 3)
	deliver(t, b, "main", some()...)
	deliver(t, b, "main", made(7, 2, 9, 7, 1), made(8, 1, 9, 7, 2))
	return b
}

// checkNoFork looks that a Fork is refused with an error, and that nothing changes, the next number neither.
func checkNoFork(t *testing.T, b *branch.Branches, name, from string, v api.Vector, want api.Errno) {
	t.Helper()
	checkStays(t, "Fork of "+strconv.Quote(name)+" from "+strconv.Quote(from), b, want, func() ([]api.Op, api.Errno) { return nil, b.Fork(name, from, v) })
}

// checkFork looks that a Fork makes a branch with just these operations, behind all others, and that it changes no other one.
func checkFork(t *testing.T, b *branch.Branches, name, from string, v api.Vector, l ...api.Op) {
	t.Helper()
	was, names, handed := seen(b), b.Names(), slices.Clone(v)
	if e := b.Fork(name, from, v); e != api.OK {
		t.Fatalf("Fork of %q from %q, %v: error %d", name, from, v, e)
	}
	if got := b.Names(); !slices.Equal(got, append(names, name)) {
		t.Errorf("the names are %q", got)
	}
	if !reflect.DeepEqual(seen(b)[:len(was)], was) {
		t.Errorf("Fork of %q from %q, %v changed another one", name, from, v)
	}
	d := b.Doc(name)
	checkOps(t, name, d, l...)
	if !slices.Equal(d.Version(), v) || d.Show() != view.View(l) || len(d.Waiting()) != 0 || !slices.Equal(v, handed) {
		t.Errorf("at %v there is %v, %q, and %v wait", v, d.Version(), d.Show(), ids(d.Waiting()))
	}
}

// P17.2: the new branch's document has just what the version has, and nothing waits there; each version of one branch.
func TestFork(t *testing.T) {
	b, l := told(t), some()
	checkFork(t, b, "none", "main", nil)
	checkFork(t, b, "empty", "main", api.Vector{})
	checkFork(t, b, "first", "main", vec(1, 1), l[0])
	checkFork(t, b, "other", "main", vec(2, 1), l[1])
	checkFork(t, b, "two", "main", vec(1, 2), l[0], l[2])
	checkFork(t, b, "apart", "main", vec(1, 1, 2, 2), l[0], l[1], l[3])
	checkFork(t, b, "trash", "main", vec(1, 3, 2, 1), l[0], l[1], l[2], l[4])
	checkFork(t, b, "most", "main", vec(1, 2, 2, 2, 3, 1), l[0], l[1], l[2], l[3], l[5])
	checkFork(t, b, "all", "main", vec(1, 3, 2, 2, 3, 2), l...)
	if b.Doc("all").Show() != b.Doc("main").Show() || len(b.Doc("main").Waiting()) != 2 {
		t.Errorf("main shows %q, all of it %q", b.Doc("main").Show(), b.Doc("all").Show())
	}
	// A branch from which one is forked may be any one; of it that counts which it has itself.
	checkFork(t, b, "a", "trash", vec(1, 2, 2, 1), l[0], l[1], l[2])
	checkFork(t, b, "b", "a", vec(1, 1), l[0])
	checkNoFork(t, b, "c", "a", vec(1, 3, 2, 1), api.ErrPast)
	checkNoFork(t, b, "c", "none", vec(1, 1), api.ErrPast)
	checkFork(t, b, "c", "none", nil)
}

// P17.2: what is forked goes on by itself: what it is told doesn't reach the one from which it was forked, nor the other way round; what was handed in isn't kept.
func TestForkApart(t *testing.T) {
	b, l := told(t), some()
	v := vec(1, 2)
	checkFork(t, b, "a", "main", v, l[0], l[2])
	v[0] = dot(2, 1)
	deliver(t, b, "a", l[1])
	was := lookAt(b.Doc("main"))
	must(t)(b.Edit("a", "u", writing(dot(1, 1), 1, "!")))
	if b.Doc("a").Show() != "- x!\n- \n" || !reflect.DeepEqual(lookAt(b.Doc("main")), was) {
		t.Errorf("a shows %q, main %q", b.Doc("a").Show(), b.Doc("main").Show())
	}
	was = lookAt(b.Doc("a"))
	must(t)(b.Edit("main", "u", creating(root, 0)))
	deliver(t, b, "main", made(7, 1, 1))
	if !reflect.DeepEqual(lookAt(b.Doc("a")), was) {
		t.Errorf("a shows %q", b.Doc("a").Show())
	}
	checkFork(t, b, "b", "a", vec(1, 2), l[0], l[2])
}

// P17.2: operations of the branch's own actor that came with a Fork of a later branch are counted by the clock.
func TestForkClock(t *testing.T) {
	b := newAt(t, 3)
	deliver(t, b, "main", made(769, 1, 6), made(769, 2, 7, 769, 1), made(770, 1, 40))
	checkFork(t, b, "a", "main", vec(769, 1), made(769, 1, 6))
	if got := must(t)(b.Edit("a", "u", creating(root, 0))); got[0].Id != dot(769, 2) || got[0].Time != 7 {
		t.Errorf("the next one in a is %v", got)
	}
	checkFork(t, b, "b", "main", vec(769, 2, 770, 1), made(769, 1, 6), made(769, 2, 7, 769, 1), made(770, 1, 40))
	if got := must(t)(b.Edit("b", "u", creating(root, 0))); got[0].Id != dot(770, 2) || got[0].Time != 41 {
		t.Errorf("the next one in b is %v", got)
	}
}

// P17.2: ErrName, if name is none, if there is such a branch, and if there is none from.
func TestForkNames(t *testing.T) {
	b := told(t)
	fork(t, b, "a", "main")
	for _, v := range []api.Vector{nil, vec(1, 1), vec(1, 3, 2, 2, 3, 2)} {
		for _, name := range notNames() {
			checkNoFork(t, b, name, "main", v, api.ErrName)
			checkNoFork(t, b, "b", name, v, api.ErrName)
			checkNoFork(t, b, name, name, v, api.ErrName)
		}
		for _, from := range []string{"main", "a"} {
			checkNoFork(t, b, "main", from, v, api.ErrName)
			checkNoFork(t, b, "a", from, v, api.ErrName)
		}
		for _, from := range []string{"b", "c", "Main", "A", "mai", "main-", "aa"} {
			checkNoFork(t, b, "b", from, v, api.ErrName)
		}
	}
	// What isn't told apart by a name's letters alone is.
	fork(t, b, "A", "a")
	fork(t, b, "Main", "a")
	fork(t, b, repeated('b', api.MaxName), "A")
	checkNoFork(t, b, repeated('b', api.MaxName), "main", nil, api.ErrName)
}

// noVersions are vectors that may not be, of which there is something that is none, or that lack what something leans on.
func noVersions() []api.Vector {
	return []api.Vector{
		vec(1, 0), vec(0, 0), vec(-1, 1), {root}, vec(1, 1, 1, 1), vec(1, 1, 1, 2), vec(2, 1, 1, 1), vec(1, 1, api.MaxActor, 1), vec(1, api.MaxSeq+1),
		vec(1, 4), vec(0, 1), vec(1, 1, 4, 1), vec(1, 3, 2, 2, 3, 3), vec(768, 1),
		vec(2, 2), vec(1, 3), vec(1, 2, 2, 1, 3, 1), vec(1, 1, 2, 2, 3, 1), vec(3, 2),
		// These wait.
		vec(7, 1), vec(7, 2), vec(8, 1), vec(7, 2, 8, 1),
	}
}

// P17.2: Checkout's error, of a version that there isn't at from.
func TestForkPast(t *testing.T) {
	b := told(t)
	fork(t, b, "a", "main")
	for _, v := range noVersions() {
		checkNoFork(t, b, "b", "main", v, api.ErrPast)
		checkNoFork(t, b, "b", "a", v, api.ErrPast)
	}
	checkFork(t, b, "b", "main", vec(1, 1), some()[0])
}

// P17.2: ErrName comes ahead of Checkout's error.
func TestForkNameFirst(t *testing.T) {
	b := told(t)
	for _, v := range noVersions() {
		for _, name := range notNames() {
			checkNoFork(t, b, name, "main", v, api.ErrName)
		}
		checkNoFork(t, b, "main", "main", v, api.ErrName)
		checkNoFork(t, b, "b", "c", v, api.ErrName)
	}
}

// P17.2: ErrLimit at MaxBranches branches, behind ErrName and ahead of Checkout's error; a Fork that is refused takes no number.
func TestForkLimit(t *testing.T) {
	b := told(t)
	for n := 1; n < api.MaxBranches; n++ {
		name := "b-" + strconv.Itoa(n)
		if b.Fork("b c", "main", nil) != api.ErrName || b.Fork(name, "main", vec(9, 9)) != api.ErrPast || b.Fork(name, name, nil) != api.ErrName {
			t.Fatal("a Fork isn't refused")
		}
		if e := b.Fork(name, "main", vec(1, 1)); e != api.OK {
			t.Fatalf("Fork of the branch %d: error %d", n, e)
		}
		if actor, there := b.Actor(name); actor != 768+n || !there {
			t.Fatalf("the actor of the branch %d is %d, %v", n, actor, there)
		}
	}
	for range 2 {
		checkNoFork(t, b, "last", "main", vec(1, 1), api.ErrLimit)
		checkNoFork(t, b, "last", "b-255", nil, api.ErrLimit)
		checkNoFork(t, b, "last", "main", vec(1, 0), api.ErrLimit)
		checkNoFork(t, b, "last", "main", vec(9, 9), api.ErrLimit)
		checkNoFork(t, b, "last!", "main", nil, api.ErrName)
		checkNoFork(t, b, "last", "last", nil, api.ErrName)
		checkNoFork(t, b, "b-255", "main", nil, api.ErrName)
		checkNoFork(t, b, "main", "main", vec(9, 9), api.ErrName)
	}
	if len(b.Names()) != api.MaxBranches || b.Names()[255] != "b-255" {
		t.Errorf("there are %d names", len(b.Names()))
	}
	if got := must(t)(b.Edit("b-255", "u", creating(root, 0))); got[0].Id != dot(1023, 1) {
		t.Errorf("in the last one there is %v", got)
	}
}

// P17.2: a document that is full can be forked, and is full there, too.
func TestForkFull(t *testing.T) {
	b := newAt(t, 3)
	l := filling(api.MaxOps)
	deliver(t, b, "main", l...)
	checkFork(t, b, "all", "main", vec(9, api.MaxOps), l...)
	checkStays(t, "a full one", b, api.ErrLimit, func() ([]api.Op, api.Errno) { return b.Edit("all", "u", creating(root, 0)) })
	checkFork(t, b, "most", "main", vec(9, api.MaxOps-1), l[:api.MaxOps-1]...)
	must(t)(b.Edit("most", "u", creating(root, 0)))
}

// filling are so many operations of one actor, that make a block each.
func filling(n int) []api.Op {
	var l []api.Op
	for seq := 1; seq <= n; seq++ {
		o := made(9, seq, seq)
		if seq > 1 {
			o.Deps = vec(9, seq-1)
		}
		l = append(l, o)
	}
	return l
}
