package causal_test

import (
	"slices"
	"testing"

	"osier/api"
	"osier/causal"
	"osier/vector"
)

// checkDots looks at a row of dots that a call tells: what it is, that it is new memory, and that what was handed in stays as it was.
func checkDots(t *testing.T, what string, call func(l []api.Op) []api.Dot, l []api.Op, want []api.Dot) {
	t.Helper()
	checkKept(t, what, l, func(l []api.Op) {
		got := call(l)
		if !slices.Equal(got, want) {
			t.Fatalf("%s of %s: %v, not %v", what, told(l), got, want)
		}
		again := call(l)
		spoilDots(got)
		if !slices.Equal(again, want) {
			t.Fatalf("%s of %s: two answers share memory", what, told(l))
		}
	})
	l = roomy(l)
	got := call(l)
	spoil(l)
	if !slices.Equal(got, want) {
		t.Fatalf("%s: what is answered shares memory with what was handed in", what)
	}
}

// version is Version as a row of dots.
func version(l []api.Op) []api.Dot { return causal.Version(l) }

// checkVersion looks at Version in all orders of a row.
func checkVersion(t *testing.T, want api.Vector, l ...api.Op) {
	t.Helper()
	for _, row := range orders(l) {
		checkDots(t, "Version", version, row, want)
	}
}

// P8.4: of nothing nothing; of several of one actor the last one, in any order, with gaps too.
func TestVersion(t *testing.T) {
	checkVersion(t, nil)
	checkVersion(t, vec(1, 1), op(1, 1, 1))
	checkVersion(t, vec(1, 3), op(1, 1, 1), op(1, 2, 2, 1, 1), op(1, 3, 3, 1, 2))
	checkVersion(t, vec(1, 9), op(1, 9, 1, 1, 8), op(1, 4, 2, 1, 3))
	checkVersion(t, vec(0, 1, 2, 2, lastAct, lastSeq), op(2, 2, 1, 2, 1), op(0, 1, 7), op(lastAct, lastSeq, 1, lastAct, lastSeq-1), op(2, 1, 2))
	checkVersion(t, vec(5, 1), op(5, 1, 1), op(5, 1, 1), keyed(op(5, 1, 9), "m"))
	// What is known isn't there: Deps don't count.
	checkVersion(t, vec(2, 1), op(2, 1, 1, 1, 5, 3, 9))
}

// P8.4: Ids that may not be aren't among them; the Id alone counts, whether the operation may be or not.
func TestVersionOfWrong(t *testing.T) {
	for _, d := range noDots() {
		checkVersion(t, nil, op(d.Act, d.Seq, 1))
		checkVersion(t, vec(1, 2, 3, 1), op(d.Act, d.Seq, 1), op(1, 2, 2, 1, 1), op(3, 1, 1))
	}
	for _, w := range wrongOf(op(1, 2, 2, 1, 1)) {
		checkVersion(t, vec(1, 2), w)
		checkVersion(t, vec(1, 2, 2, 1), w, op(1, 1, 1), op(2, 1, 1))
	}
	checkVersion(t, nil, api.Op{})
}

// P8.4: it is the least vector that has all Ids: one that has them is above it.
func TestVersionIsLeast(t *testing.T) {
	for _, l := range rows(palette(), 3) {
		v := causal.Version(l)
		if !vector.May(v) {
			t.Fatalf("Version of %s may not be: %v", told(l), v)
		}
		for _, o := range l {
			if o.Id.Seq > 0 && !vector.Has(v, o.Id) {
				t.Fatalf("Version of %s lacks %v: %v", told(l), o.Id, v)
			}
		}
		for _, d := range v {
			if !slices.ContainsFunc(l, func(o api.Op) bool { return o.Id == d }) {
				t.Fatalf("Version of %s has %v: %v", told(l), d, v)
			}
		}
	}
}

// checkFrontier looks at Frontier in all orders of a row.
func checkFrontier(t *testing.T, want []api.Dot, l ...api.Op) {
	t.Helper()
	for _, row := range orders(l) {
		checkDots(t, "Frontier", causal.Frontier, row, want)
	}
}

// P8.4: of nothing nothing; those on which none leans, rising.
func TestFrontier(t *testing.T) {
	first, second := op(1, 1, 1), op(1, 2, 2, 1, 1)
	checkFrontier(t, nil)
	checkFrontier(t, vec(1, 1), first)
	checkFrontier(t, vec(1, 2), second)
	checkFrontier(t, vec(1, 2), first, second)
	checkFrontier(t, vec(1, 2, 2, 1), first, second, op(2, 1, 2, 1, 1))
	checkFrontier(t, vec(2, 1), first, second, op(2, 1, 3, 1, 2))
	checkFrontier(t, vec(0, 1, 1, 1, 2, 1, lastAct, 1), op(2, 1, 1), first, op(lastAct, 1, 9), op(0, 1, 5))
	checkFrontier(t, vec(1, 2, 4, 1), first, second, op(2, 1, 3), op(4, 1, 9, 1, 1, 2, 1))
	checkFrontier(t, vec(9, 1), op(9, 1, 5, 1, 2, 2, 1), first, second, op(2, 1, 3))
	// Deps have all ahead of their dots, too.
	checkFrontier(t, vec(1, 4, 2, 1), first, second, op(1, 4, 4, 1, 3), op(2, 1, 9, 1, 2))
	checkFrontier(t, vec(2, 1), first, second, op(1, 4, 4, 1, 3), op(2, 1, 9, 1, 7))
	// Of one actor several, if what lies between isn't there.
	checkFrontier(t, vec(1, 3, 2, 1), op(1, 3, 3, 1, 2), first, op(2, 1, 9))
	// Times say nothing.
	checkFrontier(t, vec(2, 1), op(1, 1, 9), op(2, 1, 1, 1, 1))
	// Two that lean on each other: none is on the frontier.
	checkFrontier(t, nil, op(1, 1, 1, 2, 1), op(2, 1, 1, 1, 1))
}

// P8.4: each Id once; the Deps of an operation of the same Id don't count, those of others do.
func TestFrontierOfOneId(t *testing.T) {
	first, self := op(1, 1, 1), keyed(op(1, 1, 2, 1, 1), "m")
	checkFrontier(t, vec(1, 1), first, first)
	checkFrontier(t, vec(1, 1), first, keyed(first, "m"))
	checkFrontier(t, vec(1, 1), self)
	checkFrontier(t, vec(1, 1), self, self)
	checkFrontier(t, vec(1, 1), first, self)
	checkFrontier(t, vec(1, 1), first, op(1, 1, 2, 1, lastSeq))
	// Of two Ids the Deps of each have both, and more.
	far, near := op(1, 1, 2, 1, 9), op(1, 2, 2, 1, 9)
	checkFrontier(t, nil, far, near)
	checkFrontier(t, nil, op(1, 1, 2, 1, 2), op(1, 2, 2, 1, 1))
	checkFrontier(t, vec(2, 1), far, first, op(1, 2, 2, 1, 1), op(1, 2, 9, 1, 3), op(2, 1, 9, 1, 1), op(1, 1, 8, 1, 1))
	// The most is known by one of the same Id, less by another one.
	checkFrontier(t, vec(1, 5), op(1, 5, 1, 1, 9), op(1, 1, 1), op(1, 3, 1, 1, 2), op(1, 4, 1, 1, 3))
	checkFrontier(t, vec(1, 5, 2, 1), op(1, 5, 1, 1, 9), op(2, 1, 1, 1, 4), op(1, 4, 1, 1, 3))
	checkFrontier(t, vec(2, 1), op(1, 5, 1, 1, 9), op(2, 1, 1, 1, 5), op(1, 4, 1, 1, 3))
	checkFrontier(t, vec(2, 1, 3, 1), op(1, 5, 1, 1, 9), op(2, 1, 1, 1, 5), op(3, 1, 1, 1, 2), op(1, 5, 1, 1, 7))
	// The second one of the same Id counts for the others.
	checkFrontier(t, vec(1, 1), first, keyed(op(1, 1, 2, 2, 1), "m"), op(2, 1, 1))
}

// P8.4: operations that may not be are l's, too; an Id that may not be is one that no Deps have.
func TestFrontierOfWrong(t *testing.T) {
	for _, d := range noDots() {
		o := op(d.Act, d.Seq, 1)
		checkFrontier(t, []api.Dot{d}, o)
		checkFrontier(t, []api.Dot{d}, o, o)
		o.Deps = vec(1, 2)
		late := []api.Dot{dot(1, 3), d}
		if d.Act < 1 || d.Act == 1 && d.Seq < 3 {
			late = []api.Dot{d, dot(1, 3)}
		}
		checkFrontier(t, late, o, op(1, 1, 1), op(1, 2, 1, 1, 1), op(1, 3, 1))
	}
	leans := op(2, 1, 0, 1, 1)
	checkFrontier(t, vec(2, 1), leans, op(1, 1, 1))
	checkFrontier(t, []api.Dot{{}}, api.Op{})
}

// P8.4: of Deps that may not be there is some answer, from all calls.
func TestWrongDeps(t *testing.T) {
	for _, deps := range []api.Vector{noDots(), vec(3, 1, 1, 2), vec(1, 1, 1, 2), vec(1, 0), vec(1, -5, 2, lastSeq+1), slices.Repeat(vec(1, 1), 9)} {
		o := op(1, 1, 1)
		o.Deps = deps
		l := []api.Op{o, op(1, 2, 2, 1, 1), op(2, 1, 1), {Deps: deps}}
		causal.Frontier(l)
		causal.Ahead(l[1], o)
		causal.Apart(l[1], o)
		if causal.Right(l) || !slices.Equal(causal.Version(l), vec(1, 2, 2, 1)) {
			t.Errorf("Right or Version with the Deps %v", deps)
		}
		checkOrder(t, l, []api.Op{op(2, 1, 1)}, []api.Op{op(1, 2, 2, 1, 1)})
	}
}

// P8.4: Ahead and Apart of one Id, of one that leans on the other, and of two that don't.
func TestAheadAndApart(t *testing.T) {
	first, second, third := op(1, 1, 1), op(1, 2, 2, 1, 1), op(1, 3, 9, 1, 2)
	other := op(2, 1, 1)
	knows := op(2, 2, 3, 1, 2, 2, 1)
	self := op(1, 1, 2, 1, 1)
	for _, c := range []struct {
		a, b          api.Op
		ab, ba, apart bool
	}{
		{first, first, false, false, false},
		{first, keyed(first, "m"), false, false, false},
		{first, op(1, 1, 7, 2, 2), false, false, false},
		{first, self, true, false, false},
		{self, self, true, true, false},
		{first, second, true, false, false},
		{first, third, true, false, false},
		{second, third, true, false, false},
		{first, other, false, false, true},
		{second, other, false, false, true},
		{other, knows, true, false, false},
		{first, knows, true, false, false},
		{second, knows, true, false, false},
		{third, knows, false, false, true},
		{op(1, 1, 1), op(0, 1, 1), false, false, true},
		{op(1, 1, 9), op(2, 1, 1, 1, 1), true, false, false},
		{op(1, 1, 1, 2, 1), op(2, 1, 1, 1, 1), true, true, false},
		{op(1, 2, 1), op(2, 1, 1, 1, 1), false, false, true},
		{op(1, 2, 1), op(2, 1, 1, 1, lastSeq), true, false, false},
		{op(lastAct, lastSeq, 1), op(2, 1, 1, lastAct, lastSeq), true, false, false},
	} {
		checkPair(t, c.a, c.b, c.ab, c.ba, c.apart)
		checkPair(t, c.b, c.a, c.ba, c.ab, c.apart)
	}
	// No Deps have what may not be.
	for _, d := range noDots() {
		o := op(d.Act, d.Seq, 1)
		checkPair(t, o, knows, false, false, true)
		checkPair(t, o, op(1, 1, 1, 0, lastSeq, 1, lastSeq), false, false, true)
		checkPair(t, o, o, false, false, false)
	}
	checkPair(t, api.Op{}, api.Op{}, false, false, false)
}

// checkPair looks at both calls of two operations.
func checkPair(t *testing.T, a, b api.Op, ab, ba, apart bool) {
	t.Helper()
	checkKept(t, "Ahead and Apart", []api.Op{a, b}, func(l []api.Op) {
		if got := causal.Ahead(l[0], l[1]); got != ab {
			t.Errorf("Ahead of %+v and %+v: %v", a, b, got)
		}
		if got := causal.Ahead(l[1], l[0]); got != ba {
			t.Errorf("Ahead of %+v and %+v: %v", b, a, got)
		}
		if got := causal.Apart(l[0], l[1]); got != apart {
			t.Errorf("Apart of %+v and %+v: %v", a, b, got)
		}
	})
}
