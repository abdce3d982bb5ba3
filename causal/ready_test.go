package causal_test

import (
	"slices"
	"testing"

	"osier/api"
	"osier/causal"
)

// P8.1: what can be taken in, what is there, what comes too early; of vectors that have none, some, and more.
func TestReady(t *testing.T) {
	first := op(1, 1, 1)
	second := op(1, 2, 2, 1, 1)
	leans := op(2, 1, 2, 1, 2, 4, 1)
	for _, c := range []struct {
		have api.Vector
		o    api.Op
		want api.Errno
	}{
		{nil, first, api.OK},
		{api.Vector{}, first, api.OK},
		{vec(2, 5), first, api.OK},
		{vec(0, 9, 2, 5), first, api.OK},
		{vec(1, 1), first, api.ErrTwice},
		{vec(1, 2), first, api.ErrTwice},
		{vec(1, lastSeq), first, api.ErrTwice},
		{vec(0, 1, 1, 1, 2, 1), first, api.ErrTwice},
		{nil, second, api.ErrEarly},
		{vec(0, 1, 2, 1), second, api.ErrEarly},
		{vec(1, 1), second, api.OK},
		{vec(1, 2), second, api.ErrTwice},
		{nil, leans, api.ErrEarly},
		{vec(1, 2), leans, api.ErrEarly},
		{vec(4, 1), leans, api.ErrEarly},
		{vec(1, 1, 4, 1), leans, api.ErrEarly},
		{vec(1, 2, 3, 1), leans, api.ErrEarly},
		{vec(1, 2, 4, 1), leans, api.OK},
		{vec(1, 3, 3, 8, 4, 7), leans, api.OK},
		{vec(2, 1), leans, api.ErrTwice},
		{vec(1, 2, 2, 1, 4, 1), leans, api.ErrTwice},
		{vec(2, 7), op(2, 3, 2, 1, 2, 2, 2), api.ErrTwice},
		{vec(0, lastSeq-1), op(0, lastSeq, 1, 0, lastSeq-1), api.OK},
		{vec(0, lastSeq-2), op(0, lastSeq, 1, 0, lastSeq-1), api.ErrEarly},
		{vec(0, lastSeq), op(0, lastSeq, 1, 0, lastSeq-1), api.ErrTwice},
		{vec(lastAct, 1), op(lastAct, 2, api.MaxTime, lastAct, 1), api.OK},
	} {
		if got := causal.Ready(c.have, c.o); got != c.want {
			t.Errorf("Ready of %v and %+v: %d, not %d", c.have, c.o, got, c.want)
		}
	}
}

// P8.1: operations of the other kinds.
func TestReadyKinds(t *testing.T) {
	insert := api.Op{Id: dot(1, 2), Time: 2, Deps: vec(1, 1), Kind: api.Insert, Block: dot(1, 1), Side: api.Right, Char: 'a'}
	remove := api.Op{Id: dot(2, 1), Time: 3, Deps: vec(1, 2), Kind: api.Delete, Block: dot(1, 1), At: dot(1, 2)}
	trash := api.Op{Id: dot(3, 1), Time: 3, Deps: vec(1, 1), Kind: api.Move, Block: dot(1, 1), Parent: api.Trash(), Key: "n"}
	for _, c := range []struct {
		have api.Vector
		want [3]api.Errno
	}{
		{nil, [3]api.Errno{api.ErrEarly, api.ErrEarly, api.ErrEarly}},
		{vec(1, 1), [3]api.Errno{api.OK, api.ErrEarly, api.OK}},
		{vec(1, 2), [3]api.Errno{api.ErrTwice, api.OK, api.OK}},
		{vec(1, 2, 2, 1, 3, 1), [3]api.Errno{api.ErrTwice, api.ErrTwice, api.ErrTwice}},
	} {
		got := [3]api.Errno{causal.Ready(c.have, insert), causal.Ready(c.have, remove), causal.Ready(c.have, trash)}
		if got != c.want {
			t.Errorf("Ready with %v: %v, not %v", c.have, got, c.want)
		}
	}
}

// P8.1: one that may not be is told as such first, also where it is had, or comes too early.
func TestReadyWrong(t *testing.T) {
	for _, o := range []api.Op{op(1, 1, 1), op(3, 2, 2, 1, 1, 3, 1)} {
		for i, w := range wrongOf(o) {
			for _, have := range []api.Vector{nil, vec(1, 1), vec(1, 1, 3, 1), vec(1, 1, 3, 2), vec(1, 9, 3, 9), vec(1, 1, 3, 1, 98, 1, 99, 9)} {
				if got := causal.Ready(have, w); got != api.ErrOp {
					t.Errorf("%d: Ready of %v and %+v: %d", i, have, w, got)
				}
			}
		}
	}
	for _, d := range noDots() {
		if got := causal.Ready(vec(1, 1), op(d.Act, d.Seq, 1)); got != api.ErrOp {
			t.Errorf("Ready of the Id %v: %d", d, got)
		}
	}
	if got := causal.Ready(nil, api.Op{}); got != api.ErrOp {
		t.Errorf("Ready of the empty operation: %d", got)
	}
	// The second one of an actor whose Deps lack the first may not be, whatever is had.
	if got := causal.Ready(vec(1, 1), op(1, 2, 2)); got != api.ErrOp {
		t.Errorf("Ready of an operation that doesn't follow on its own actor's: %d", got)
	}
}

// P8.1: what is handed in stays as it was; of vectors that may not be there is some answer.
func TestReadyLeavesAll(t *testing.T) {
	have := append(vec(1, 2, 4, 1), vec(88, 8)...)[:2]
	checkKept(t, "Ready", []api.Op{op(2, 1, 2, 1, 2, 4, 1)}, func(l []api.Op) { causal.Ready(have, l[0]) })
	if !slices.Equal(have[:3], vec(1, 2, 4, 1, 88, 8)) {
		t.Errorf("the vector is changed: %v", have[:3])
	}
	for _, v := range []api.Vector{vec(4, 1, 1, 2), vec(1, 1, 1, 2), noDots()} {
		for _, o := range palette() {
			causal.Ready(v, o)
		}
	}
}
