package clock_test

import (
	"math"
	"testing"

	"osier/api"
	"osier/clock"
)

// made is a clock of numbers that may be.
func made(t *testing.T, actor, seq, time int) *clock.Clock {
	t.Helper()
	c, e := clock.New(actor, seq, time)
	if c == nil || e != api.OK {
		t.Fatalf("New(%d, %d, %d): %v, error %d", actor, seq, time, c, e)
	}
	return c
}

// checkHas looks at a clock's three numbers.
func checkHas(t *testing.T, what string, c *clock.Clock, actor, seq, time int) {
	t.Helper()
	if c.Actor() != actor || c.Seq() != seq || c.Time() != time {
		t.Errorf("%s: %d, %d, %d, not %d, %d, %d", what, c.Actor(), c.Seq(), c.Time(), actor, seq, time)
	}
}

// checkNext looks at what Next answers, and at the clock behind it.
func checkNext(t *testing.T, c *clock.Clock, actor, seq, time int) {
	t.Helper()
	d, at, e := c.Next()
	if d != (api.Dot{Act: actor, Seq: seq}) || at != time || e != api.OK {
		t.Errorf("Next: %v, %d, error %d, not %d.%d, %d", d, at, e, actor, seq, time)
	}
	checkHas(t, "behind Next", c, actor, seq, time)
}

// checkSpent looks for ErrSpent, time and again, and that nothing changes.
func checkSpent(t *testing.T, c *clock.Clock) {
	t.Helper()
	actor, seq, time := c.Actor(), c.Seq(), c.Time()
	for range 3 {
		if d, at, e := c.Next(); d != (api.Dot{}) || at != 0 || e != api.ErrSpent {
			t.Errorf("Next of %d, %d, %d: %v, %d, error %d", actor, seq, time, d, at, e)
		}
		checkHas(t, "behind ErrSpent", c, actor, seq, time)
	}
}

// Numbers of each kind that a clock may be made with, both bounds among them.
func actors() []int { return []int{0, 1, 255, 256, 770, lastActor - 1, lastActor} }
func seqs() []int   { return []int{0, 1, 2, 1000, 1 << 29, api.MaxSeq - 2, api.MaxSeq - 1, api.MaxSeq} }
func times() []int {
	return []int{0, 1, 2, 1000, api.MaxSeq, api.MaxSeq + 1, 1 << 31, 1 << 32, api.MaxTime - 2, api.MaxTime - 1, api.MaxTime}
}

// clocks calls with the numbers of all those clocks.
func clocks(call func(actor, seq, time int)) {
	for _, actor := range actors() {
		for _, seq := range seqs() {
			for _, time := range times() {
				call(actor, seq, time)
			}
		}
	}
}

// P5.2: a clock has the numbers that it was made with, however often they are asked for.
func TestNew(t *testing.T) {
	clocks(func(actor, seq, time int) {
		c := made(t, actor, seq, time)
		for range 2 {
			checkHas(t, "New", c, actor, seq, time)
		}
	})
}

// checkNoClock looks for ErrArg, and no clock.
func checkNoClock(t *testing.T, actor, seq, time int) {
	t.Helper()
	if c, e := clock.New(actor, seq, time); c != nil || e != api.ErrArg {
		t.Errorf("New(%d, %d, %d): %v, error %d", actor, seq, time, c, e)
	}
}

// P5.2: each of the three numbers beyond its bounds, whatever the others are.
func TestNewBeyond(t *testing.T) {
	for _, actor := range beyond(lastActor) {
		checkNoClock(t, actor, 0, 0)
		checkNoClock(t, actor, 1, 1)
		checkNoClock(t, actor, api.MaxSeq, api.MaxTime)
	}
	for _, seq := range beyond(api.MaxSeq) {
		checkNoClock(t, 0, seq, 0)
		checkNoClock(t, 770, seq, 1)
		checkNoClock(t, lastActor, seq, api.MaxTime)
	}
	for _, time := range append(far(), -api.MaxTime, -2, -1, api.MaxTime+1, api.MaxTime+2, 2*api.MaxTime) {
		checkNoClock(t, 0, 0, time)
		checkNoClock(t, 770, 1, time)
		checkNoClock(t, lastActor, api.MaxSeq, time)
	}
	for _, n := range far() {
		for _, m := range far() {
			checkNoClock(t, n, m, 0)
			checkNoClock(t, n, 0, m)
			checkNoClock(t, 0, n, m)
			checkNoClock(t, n, m, n)
		}
	}
}

// P5.3: the chapter's example, and some dots behind it.
func TestNextWrittenOut(t *testing.T) {
	c := made(t, 770, 0, 5)
	checkNext(t, c, 770, 1, 6)
	checkNext(t, c, 770, 2, 7)
	c.See(9)
	checkNext(t, c, 770, 3, 10)
	checkNext(t, c, 770, 4, 11)
}

// P5.3: each clock, one that is spent and one that isn't.
func TestNext(t *testing.T) {
	clocks(func(actor, seq, time int) {
		c := made(t, actor, seq, time)
		for range 5 {
			if seq == api.MaxSeq || time == api.MaxTime {
				checkSpent(t, c)
				break
			}
			seq, time = seq+1, time+1
			checkNext(t, c, actor, seq, time)
		}
	})
}

// P5.3: where one of both, or both, can't be one more; and just ahead of that.
func TestNextSpent(t *testing.T) {
	for _, actor := range actors() {
		checkSpent(t, made(t, actor, api.MaxSeq, 0))
		checkSpent(t, made(t, actor, api.MaxSeq, api.MaxTime-1))
		checkSpent(t, made(t, actor, 0, api.MaxTime))
		checkSpent(t, made(t, actor, api.MaxSeq-1, api.MaxTime))
		checkSpent(t, made(t, actor, api.MaxSeq, api.MaxTime))

		c := made(t, actor, api.MaxSeq-1, 7)
		checkNext(t, c, actor, api.MaxSeq, 8)
		checkSpent(t, c)
		c = made(t, actor, 7, api.MaxTime-1)
		checkNext(t, c, actor, 8, api.MaxTime)
		checkSpent(t, c)
		c = made(t, actor, api.MaxSeq-2, api.MaxTime-2)
		checkNext(t, c, actor, api.MaxSeq-1, api.MaxTime-1)
		checkNext(t, c, actor, api.MaxSeq, api.MaxTime)
		checkSpent(t, c)
	}
}

// P5.3: a time below, at and above the clock's, at MaxTime, beyond it and below 0; Actor and Seq stay.
func TestSee(t *testing.T) {
	seen := append(times(), far()...)
	seen = append(seen, 999, 1001, -2, -1, api.MaxTime+1, api.MaxTime+2)
	clocks(func(actor, seq, time int) {
		for _, s := range seen {
			want := time
			if s > time && s <= api.MaxTime {
				want = s
			}
			c := made(t, actor, seq, time)
			for range 2 {
				c.See(s)
				checkHas(t, "behind See", c, actor, seq, want)
			}
		}
	})
}

// P5.3: times written out, one behind the other.
func TestSeeWrittenOut(t *testing.T) {
	c := made(t, 770, 3, 5)
	for _, s := range []struct{ time, want int }{
		{-1, 5},
		{math.MinInt, 5},
		{0, 5},
		{4, 5},
		{5, 5},
		{6, 6},
		{5, 6},
		{api.MaxTime + 1, 6},
		{math.MaxInt, 6},
		{1 << 39, 1 << 39},
		{api.MaxTime - 1, api.MaxTime - 1},
		{api.MaxTime + 1, api.MaxTime - 1},
		{api.MaxTime, api.MaxTime},
		{api.MaxTime + 1, api.MaxTime},
		{6, api.MaxTime},
	} {
		c.See(s.time)
		checkHas(t, "behind See", c, 770, 3, s.want)
	}
	checkSpent(t, c)
}

// P5.3: a clock that has no Seq left is still told times.
func TestSeeSpent(t *testing.T) {
	c := made(t, 1, api.MaxSeq, 5)
	checkSpent(t, c)
	c.See(9)
	checkHas(t, "behind See", c, 1, api.MaxSeq, 9)
	checkSpent(t, c)
}

// P5.3: each method of a clock that is nil, behind each other one.
func TestNil(t *testing.T) {
	var c *clock.Clock
	for _, s := range append(far(), -1, 0, 1, api.MaxTime) {
		c.See(s)
		checkHas(t, "nil", c, 0, 0, 0)
		if d, at, e := c.Next(); d != (api.Dot{}) || at != 0 || e != api.ErrArg {
			t.Errorf("Next of nil: %v, %d, error %d", d, at, e)
		}
	}
	checkHas(t, "nil", c, 0, 0, 0)
	// What New answers beside an error is such a clock.
	c, _ = clock.New(-1, 0, 0)
	if _, _, e := c.Next(); e != api.ErrArg {
		t.Errorf("Next of what New refused: error %d", e)
	}
}

// Rule 4: clocks share nothing, those of one actor neither.
func TestClocksApart(t *testing.T) {
	a, b := made(t, 7, 1, 2), made(t, 7, 1, 2)
	checkNext(t, a, 7, 2, 3)
	a.See(50)
	checkHas(t, "the other one", b, 7, 1, 2)
	checkNext(t, b, 7, 2, 3)
	checkHas(t, "the one", a, 7, 2, 50)
	checkHas(t, "a fresh one", made(t, 7, 1, 2), 7, 1, 2)
}

// steps are made from bytes: a Next, or a See of a time about that of the clock.
func steps(t *testing.T, c *clock.Clock, b []byte) {
	t.Helper()
	var last api.Dot
	above := c.Time()
	seq := c.Seq()
	for _, x := range b {
		if x%2 == 0 {
			s := c.Time() + (int(x)-128)<<(x%37)
			c.See(s)
			if s <= api.MaxTime {
				above = max(above, s)
			}
			continue
		}
		d, at, e := c.Next()
		if e != api.OK {
			checkSpent(t, c)
			continue
		}
		if d.Act != c.Actor() || d.Seq != seq+1 || at <= above {
			t.Fatalf("%v at %d behind %v, times to %d", d, at, last, above)
		}
		last, above, seq = d, at, d.Seq
	}
}

// P5.4: of two dots the later one has the greater Seq and time, and times that were seen lie below.
func TestLaterIsGreater(t *testing.T) {
	var b []byte
	for i := range 5000 {
		b = append(b, byte(i*i>>3^i*7))
	}
	clocks(func(actor, seq, time int) { steps(t, made(t, actor, seq, time), b) })
}

// P5.4: behind See of a time the next one is above it, whether it was below, at or above the clock's.
func TestNextAboveSeen(t *testing.T) {
	for _, time := range times()[:len(times())-1] {
		for _, s := range append(times()[:len(times())-1], math.MinInt, -1) {
			c := made(t, 3, 4, time)
			c.See(s)
			if _, at, e := c.Next(); at <= s || at <= time || e != api.OK {
				t.Errorf("%d behind %d and See(%d), error %d", at, time, s, e)
			}
		}
	}
}

// P5.4: two clocks that tell one another their times never fall behind.
func TestTwoClocks(t *testing.T) {
	a, b := made(t, 1, 0, 0), made(t, 2, 0, 40)
	last := 0
	for range 100 {
		for _, c := range []*clock.Clock{a, b} {
			c.See(last)
			_, at, e := c.Next()
			if at <= last || e != api.OK {
				t.Fatalf("%d behind %d, error %d", at, last, e)
			}
			last = at
		}
	}
	checkHas(t, "the first one", a, 1, 100, last-1)
	checkHas(t, "the second one", b, 2, 100, last)
}

// P5.3, P5.4: any steps of any clock.
func FuzzClock(f *testing.F) {
	f.Add(770, 0, 5, []byte{1, 2, 200, 1, 1})
	f.Add(0, api.MaxSeq-1, api.MaxTime-2, []byte{1, 1, 255, 254})
	f.Fuzz(func(t *testing.T, actor, seq, time int, b []byte) {
		c, e := clock.New(actor, seq, time)
		if e == api.OK {
			steps(t, c, b)
		}
	})
}
