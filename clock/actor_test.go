package clock_test

import (
	"math"
	"testing"

	"osier/api"
	"osier/clock"
)

// The calls, with just the signatures that the chapter lists.
var (
	_ func(int, int) (int, api.Errno)               = clock.Actor
	_ func(int) (int, int)                          = clock.Split
	_ func(int, int, int) (*clock.Clock, api.Errno) = clock.New
	_ func(*clock.Clock) (api.Dot, int, api.Errno)  = (*clock.Clock).Next
	_ func(*clock.Clock, int)                       = (*clock.Clock).See
	_ func(*clock.Clock) int                        = (*clock.Clock).Actor
	_ func(*clock.Clock) int                        = (*clock.Clock).Seq
	_ func(*clock.Clock) int                        = (*clock.Clock).Time
)

const (
	lastReplica = api.MaxReplicas - 1
	lastBranch  = api.MaxBranches - 1
	lastActor   = api.MaxActor - 1
)

// far are numbers that are beyond all bounds, some of which would be right ones if bits of theirs were cut off.
func far() []int {
	return []int{
		math.MinInt, math.MinInt + 1, math.MinInt + 770, -1 << 62, -1<<48 + 1, -1 << 41, -1 << 32, -1<<32 + 1, -1 << 24, -1 << 16, -1 << 8,
		1 << 41, 1<<41 + 1, 1 << 48, 1<<62 + 2, math.MaxInt - 1, math.MaxInt,
	}
}

// beyond are numbers that aren't 0 to a last one.
func beyond(last int) []int {
	return append(far(), -last-1, -last, -770, -256, -255, -3, -2, -1, last+1, last+2, 2*last, 2*last+2, 1<<32*(last+1), 1<<32*(last+1)+1)
}

// P5.1: actors written out, at both bounds of both numbers.
func TestActorWrittenOut(t *testing.T) {
	for _, c := range []struct{ replica, branch, actor int }{
		{3, 2, 770},
		{0, 0, 0},
		{0, 1, 1},
		{0, 254, 254},
		{0, 255, 255},
		{1, 0, 256},
		{1, 1, 257},
		{1, 255, 511},
		{2, 0, 512},
		{255, 0, 65280},
		{255, 255, 65535},
		{256, 0, 65536},
		{65534, 255, 16776959},
		{65535, 0, 16776960},
		{65535, 1, 16776961},
		{65535, 254, 16777214},
		{65535, 255, 16777215},
	} {
		if a, e := clock.Actor(c.replica, c.branch); a != c.actor || e != api.OK {
			t.Errorf("Actor(%d, %d): %d, error %d, not %d", c.replica, c.branch, a, e, c.actor)
		}
		if r, b := clock.Split(c.actor); r != c.replica || b != c.branch {
			t.Errorf("Split(%d): %d, %d, not %d, %d", c.actor, r, b, c.replica, c.branch)
		}
	}
}

// checkNoActor looks for ErrArg, and nothing beside it.
func checkNoActor(t *testing.T, replica, branch int) {
	t.Helper()
	if a, e := clock.Actor(replica, branch); a != 0 || e != api.ErrArg {
		t.Errorf("Actor(%d, %d): %d, error %d", replica, branch, a, e)
	}
}

// P5.1: a replica or a branch, or both, that may not be.
func TestActorBeyond(t *testing.T) {
	for _, replica := range beyond(lastReplica) {
		for _, branch := range []int{0, 1, 2, 254, lastBranch} {
			checkNoActor(t, replica, branch)
		}
		for _, branch := range beyond(lastBranch) {
			checkNoActor(t, replica, branch)
		}
	}
	for _, branch := range beyond(lastBranch) {
		for _, replica := range []int{0, 1, 3, 256, lastReplica - 1, lastReplica} {
			checkNoActor(t, replica, branch)
		}
	}
}

// P5.1: actors that may not be.
func TestSplitBeyond(t *testing.T) {
	for _, actor := range beyond(lastActor) {
		if r, b := clock.Split(actor); r != -1 || b != -1 {
			t.Errorf("Split(%d): %d, %d", actor, r, b)
		}
	}
}

// P5.1: each actor is of one replica and branch, in their order, and Split tells them.
func TestActorSplit(t *testing.T) {
	actor := 0
	for replica := range api.MaxReplicas {
		for branch := range api.MaxBranches {
			if a, e := clock.Actor(replica, branch); a != actor || e != api.OK {
				t.Fatalf("Actor(%d, %d): %d, error %d, not %d", replica, branch, a, e, actor)
			}
			if r, b := clock.Split(actor); r != replica || b != branch {
				t.Fatalf("Split(%d): %d, %d, not %d, %d", actor, r, b, replica, branch)
			}
			actor++
		}
	}
	if actor != api.MaxActor {
		t.Errorf("%d actors, not %d", actor, api.MaxActor)
	}
}
