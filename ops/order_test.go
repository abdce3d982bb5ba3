package ops_test

import (
	"math"
	"slices"
	"testing"

	"osier/api"
	"osier/ops"
)

// at is an operation of an Id and a Time.
func at(act, seq, time int) api.Op { return api.Op{Id: dot(act, seq), Time: time} }

// P7.1: by Time first, then by Act, then by Seq; of the same neither.
func TestLess(t *testing.T) {
	l := []api.Op{
		at(5, 5, math.MinInt), at(5, 5, -1), at(5, 5, 0),
		at(0, 1, 1), at(0, 2, 1), at(0, lastSeq, 1), at(1, 1, 1), at(1, 2, 1), at(2, 1, 1), at(lastAct, 1, 1), at(lastAct, lastSeq, 1),
		at(math.MinInt, 0, 2), at(-1, 5, 2), at(0, -2, 2), at(0, -1, 2), at(0, 0, 2), at(0, 1, 2), at(3, 3, 2), at(math.MaxInt, math.MaxInt, 2),
		at(0, 1, 3), at(lastAct, lastSeq, 1<<32), at(0, 1, api.MaxTime-1), at(0, 1, api.MaxTime), at(1, 1, api.MaxTime), at(0, 0, math.MaxInt),
	}
	for i, a := range l {
		for j, b := range l {
			if got := ops.Less(a, b); got != (i < j) {
				t.Errorf("Less of %v at %d and %v at %d: %v", a.Id, a.Time, b.Id, b.Time, got)
			}
		}
	}
}

// P7.1: nothing but Time and Id counts.
func TestLessByNothingElse(t *testing.T) {
	o := move()
	for i, a := range others(o) {
		if a.Id != o.Id || a.Time != o.Time {
			continue
		}
		if ops.Less(a, o) || ops.Less(o, a) {
			t.Errorf("%d: one of %+v and %+v is ahead", i, a, o)
		}
		later := with(a, func(o *api.Op) { o.Time++ })
		if !ops.Less(o, later) || ops.Less(later, o) {
			t.Errorf("%d: %+v isn't ahead of %+v", i, o, later)
		}
		behind := with(a, func(o *api.Op) { o.Id.Seq++ })
		if !ops.Less(o, behind) || ops.Less(behind, o) {
			t.Errorf("%d: %+v isn't ahead of %+v", i, o, behind)
		}
	}
}

// P7.4: of two with unlike Ids just one is ahead; what is ahead of what is ahead is so, too.
func TestLessIsAnOrder(t *testing.T) {
	var l []api.Op
	for _, act := range []int{0, 1, 2, lastAct} {
		for _, seq := range []int{1, 2, lastSeq} {
			for _, time := range []int{1, 2, api.MaxTime} {
				l = append(l, at(act, seq, time))
			}
		}
	}
	for _, a := range l {
		for _, b := range l {
			ab, ba := ops.Less(a, b), ops.Less(b, a)
			if ab && ba || a.Id != b.Id && !ab && !ba {
				t.Errorf("Less of %v at %d and %v at %d: %v, %v", a.Id, a.Time, b.Id, b.Time, ab, ba)
			}
			for _, c := range l {
				if ab && ops.Less(b, c) && !ops.Less(a, c) {
					t.Errorf("%v, %v, %v", a, b, c)
				}
			}
		}
	}
}

// others are operations that differ from one in one place each.
func others(o api.Op) []api.Op {
	l := []api.Op{
		with(o, func(o *api.Op) { o.Id.Act++ }),
		with(o, func(o *api.Op) { o.Id.Seq++ }),
		with(o, func(o *api.Op) { o.Id.Act, o.Id.Seq = o.Id.Seq, o.Id.Act }),
		with(o, func(o *api.Op) { o.Time++ }),
		with(o, func(o *api.Op) { o.Time = -o.Time }),
		with(o, func(o *api.Op) { o.Time += 1 << 32 }),
		with(o, func(o *api.Op) { o.Kind++ }),
		with(o, func(o *api.Op) { o.Block.Act++ }),
		with(o, func(o *api.Op) { o.Block.Seq++ }),
		with(o, func(o *api.Op) { o.At.Act++ }),
		with(o, func(o *api.Op) { o.At.Seq++ }),
		with(o, func(o *api.Op) { o.Side++ }),
		with(o, func(o *api.Op) { o.Char++ }),
		with(o, func(o *api.Op) { o.Char += 1 << 32 }),
		with(o, func(o *api.Op) { o.Parent.Act++ }),
		with(o, func(o *api.Op) { o.Parent.Seq++ }),
		with(o, func(o *api.Op) { o.Key += "b" }),
		with(o, func(o *api.Op) { o.Key = "\x00" + o.Key }),
	}
	for _, deps := range []api.Vector{nil, vec(1, 2), vec(1, 2, 3, 4), vec(1, 2, 3, 4, 7, 8), vec(1, 2, 3, 4, 8, 9), vec(1, 1, 3, 4, 7, 9), vec(0, 2, 3, 4, 7, 9), vec(1, 2, 3, 4, 7, 9, 8, 1), vec(0, 1, 1, 2, 3, 4, 7, 9)} {
		l = append(l, with(o, func(o *api.Op) { o.Deps = deps }))
	}
	return l
}

// P7.1: the same, in other memory, are the same; what differs in one place isn't.
func TestSame(t *testing.T) {
	for _, o := range kinds() {
		if twin := with(o, func(o *api.Op) { o.Key = string([]byte(o.Key)) }); !ops.Same(o, o) || !ops.Same(o, twin) || !ops.Same(twin, o) {
			t.Errorf("%+v isn't the same as itself", o)
		}
		for i, a := range others(o) {
			if ops.Same(a, o) || ops.Same(o, a) {
				t.Errorf("%d: %+v and %+v are the same", i, a, o)
			}
			if !ops.Same(a, a) {
				t.Errorf("%d: %+v isn't the same as itself", i, a)
			}
		}
	}
}

// P7.1: nil Deps and empty ones are one; room behind Deps doesn't count.
func TestSameDeps(t *testing.T) {
	a := api.Op{Id: dot(1, 1), Time: 1, Kind: api.Move, Block: dot(1, 1), Parent: api.Root(), Key: "n"}
	b := with(a, func(o *api.Op) { o.Deps = api.Vector{} })
	if !ops.Same(a, b) || !ops.Same(b, a) || !ops.Same(api.Op{}, api.Op{Deps: api.Vector{}}) {
		t.Errorf("nil and empty aren't one")
	}
	c := with(move(), func(o *api.Op) { o.Deps = append(o.Deps, dot(9, 9))[:len(o.Deps)] })
	if !ops.Same(move(), c) || !slices.Equal(c.Deps[:4], vec(1, 2, 3, 4, 7, 9, 9, 9)) {
		t.Errorf("%+v", c)
	}
}

// P7.1: each of the rows with each: the same at the same place alone.
func TestSameRows(t *testing.T) {
	l := distinct(right())
	for i, a := range l {
		for j, b := range l {
			if got := ops.Same(a, b); got != (i == j) {
				t.Fatalf("Same of %+v and %+v: %v", a, b, got)
			}
		}
	}
}
