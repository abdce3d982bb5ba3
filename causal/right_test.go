package causal_test

import (
	"math/rand/v2"
	"slices"
	"testing"

	"osier/api"
	"osier/causal"
)

// checkRight looks at Right in all orders of a row.
func checkRight(t *testing.T, want bool, l ...api.Op) {
	t.Helper()
	for _, row := range orders(l) {
		checkKept(t, "Right", row, func(l []api.Op) {
			if got := causal.Right(l); got != want {
				t.Errorf("Right of %s: %v", told(l), got)
			}
		})
	}
}

// P8.3: right ones: none, one, such as lean on one another with rising times, such as don't with any.
func TestRight(t *testing.T) {
	if !causal.Right(nil) || !causal.Right([]api.Op{}) {
		t.Errorf("nothing isn't right")
	}
	checkRight(t, true, op(1, 1, 1))
	checkRight(t, true, op(1, 1, api.MaxTime))
	checkRight(t, true, op(1, 1, 1), op(1, 2, 2, 1, 1))
	checkRight(t, true, op(1, 1, 3), op(2, 1, 4, 1, 1), op(3, 1, 4, 1, 1), op(1, 2, 5, 1, 1, 2, 1, 3, 1))
	// Of those that know nothing of one another times may be the same, or the other way round.
	checkRight(t, true, op(1, 1, 2), op(2, 1, 2), op(3, 1, 1), op(0, 1, 9))
	checkRight(t, true, op(1, 1, 5), op(2, 1, 6, 1, 1), op(1, 2, 6, 1, 1), op(1, 3, 7, 1, 2), op(3, 1, 1))
}

// P8.3: one that may not be, beside right ones and alone.
func TestRightOfWrong(t *testing.T) {
	for _, o := range []api.Op{op(2, 1, 4), op(2, 1, 4, 1, 1)} {
		checkRight(t, true, op(1, 1, 1), o)
		for _, w := range wrongOf(o) {
			checkRight(t, false, w)
			checkRight(t, false, op(1, 1, 1), w)
			checkRight(t, false, op(1, 1, 1), w, o)
		}
	}
	for _, d := range noDots() {
		checkRight(t, false, op(d.Act, d.Seq, 1), op(2, 1, 1))
	}
	checkRight(t, false, api.Op{})
}

// P8.3: one that is there twice, as the same one or as another one.
func TestRightOfTwice(t *testing.T) {
	first, second := op(1, 1, 1), op(1, 2, 2, 1, 1)
	checkRight(t, false, first, first)
	checkRight(t, false, first, second, second)
	checkRight(t, false, first, first, second)
	checkRight(t, false, first, keyed(first, "m"))
	checkRight(t, false, first, op(1, 1, 7))
	checkRight(t, false, second, first, op(1, 2, 3, 1, 1))
	// The second one might stand for what lacks, but for its Id.
	checkRight(t, false, first, op(1, 1, 7, 9, 1))
}

// P8.3: one that is never taken in.
func TestRightOfLeft(t *testing.T) {
	checkRight(t, false, op(1, 2, 2, 1, 1))
	checkRight(t, false, op(1, 1, 1), op(1, 3, 3, 1, 2))
	checkRight(t, false, op(1, 1, 1), op(2, 1, 3, 1, 2))
	checkRight(t, false, op(1, 1, 1), op(2, 1, 3, 3, 1))
	checkRight(t, false, op(1, 1, 1, 2, 1), op(2, 1, 1, 1, 1))
}

// P8.3: a Time that is the same as, or below, that of one that its Deps have: of its own actor, of another one, of the last one that they have or of one ahead of it.
func TestRightOfTimes(t *testing.T) {
	checkRight(t, false, op(1, 1, 2), op(1, 2, 2, 1, 1))
	checkRight(t, false, op(1, 1, 2), op(1, 2, 1, 1, 1))
	checkRight(t, false, op(1, 1, 2), op(2, 1, 2, 1, 1))
	checkRight(t, false, op(1, 1, 2), op(2, 1, 1, 1, 1))
	checkRight(t, false, op(2, 1, 2), op(1, 1, 2, 2, 1))
	checkRight(t, false, op(2, 1, 2), op(1, 1, 1, 2, 1))
	checkRight(t, false, op(1, 1, 1), op(1, 2, 5, 1, 1), op(2, 1, 5, 1, 2))
	checkRight(t, false, op(1, 1, 5), op(1, 2, 1, 1, 1), op(2, 1, 3, 1, 2))
	checkRight(t, true, op(1, 1, 1), op(1, 2, 2, 1, 1), op(2, 1, 3, 1, 2))
	// Of several actors each one counts.
	for _, time := range []int{1, 2, 3, 4, 5, 6} {
		checkRight(t, time > 5, op(1, 1, 3), op(2, 1, 5), op(3, 1, 4), op(4, 1, time, 1, 1, 2, 1, 3, 1))
		checkRight(t, time > 3, op(1, 1, 3), op(2, 1, 5), op(3, 1, 4), op(4, 1, time, 1, 1))
	}
	// What came about later of an actor that is known doesn't count: the Deps haven't it.
	checkRight(t, true, op(1, 1, 1), op(1, 2, 9, 1, 1), op(2, 1, 2, 1, 1))
	// Known by way of another one alone: the Deps tell what is known, and nothing else.
	checkRight(t, true, op(1, 1, 9), op(2, 1, 10, 1, 1), op(3, 1, 11, 2, 1))
	checkRight(t, false, op(1, 1, 9), op(2, 1, 5, 1, 1), op(3, 1, 6, 2, 1))
	checkRight(t, true, op(1, 1, 4), op(2, 1, 2), op(3, 1, 5, 1, 1), op(4, 1, 3, 2, 1))
}

// P8.3: what comes about at actors with clocks is right; with one time that is too early it isn't.
func TestRightOfGrown(t *testing.T) {
	r := rand.New(rand.NewPCG(8, 3))
	for range 300 {
		l := grown(r, 1+r.IntN(40), func(deps int) int { return deps + 1 + r.IntN(3) })
		if !causal.Right(shuffled(r, l)) {
			t.Fatalf("%+v isn't right", l)
		}
		at := r.IntN(len(l))
		if len(l[at].Deps) == 0 {
			continue
		}
		d := l[at].Deps[r.IntN(len(l[at].Deps))]
		known := l[slices.IndexFunc(l, func(o api.Op) bool { return o.Id == d })].Time
		l[at].Time = known - r.IntN(min(2, known))
		if causal.Right(shuffled(r, l)) {
			t.Fatalf("%+v is right", l)
		}
	}
}
