package dots_test

import (
	"math"
	"testing"

	"osier/api"
	"osier/dots"
	"osier/num"
)

// The calls, with just the signatures that the chapter lists.
var (
	_ func(api.Dot) bool                   = dots.May
	_ func(api.Dot, api.Dot) bool          = dots.Less
	_ func([]api.Dot) []api.Dot            = dots.Rising
	_ func([]api.Dot, []api.Dot) []api.Dot = dots.Union
	_ func([]api.Dot, []api.Dot) []api.Dot = dots.Meet
	_ func([]api.Dot, []api.Dot) []api.Dot = dots.Minus
	_ func([]api.Dot) map[api.Dot]int      = dots.Places
	_ func([]byte, api.Dot) []byte         = dots.Put
	_ func(*num.Reader) api.Dot            = dots.Take
)

// dot is the dot act.seq.
func dot(act, seq int) api.Dot { return api.Dot{Act: act, Seq: seq} }

// numbers are those at and around the bounds, in rising order.
func numbers() []int {
	return []int{math.MinInt, math.MinInt + 1, -1 << 40, -api.MaxSeq - 1, -api.MaxSeq, -api.MaxActor, -64, -2, -1,
		0, 1, 2, 63, 64, 127, 128, api.MaxActor - 1, api.MaxActor, api.MaxActor + 1,
		api.MaxSeq - 1, api.MaxSeq, api.MaxSeq + 1, 1 << 40, math.MaxInt - 1, math.MaxInt}
}

// wild are dots of any numbers, in rising order: first by Act, then by Seq.
func wild() []api.Dot {
	var l []api.Dot
	for _, act := range numbers() {
		for _, seq := range numbers() {
			l = append(l, dot(act, seq))
		}
	}
	return l
}

// P3.1: both bounds of both numbers, the others being in order.
func TestMayBounds(t *testing.T) {
	for _, c := range []struct {
		n        int
		act, seq bool
	}{
		{math.MinInt, false, false},
		{math.MinInt + 1, false, false},
		{-api.MaxSeq, false, false},
		{-api.MaxActor, false, false},
		{-2, false, false},
		{-1, false, false},
		{0, true, false},
		{1, true, true},
		{2, true, true},
		{1<<24 - 1, true, true},
		{1 << 24, false, true},
		{1<<24 + 1, false, true},
		{1<<30 - 1, false, true},
		{1 << 30, false, true},
		{1<<30 + 1, false, false},
		{1 << 32, false, false},
		{1<<32 + 1, false, false},
		{1 << 40, false, false},
		{math.MaxInt - 1, false, false},
		{math.MaxInt, false, false},
	} {
		for _, right := range []int{1, 2, 1<<24 - 1} {
			if got := dots.May(dot(c.n, right)); got != c.act {
				t.Errorf("May(%d.%d): %v", c.n, right, got)
			}
			if got := dots.May(dot(right, c.n)); got != c.seq {
				t.Errorf("May(%d.%d): %v", right, c.n, got)
			}
		}
	}
}

// P3.1: a dot may be if both of its numbers may, whatever they are; the blocks that are always there, and none, may not.
func TestMayOfAny(t *testing.T) {
	for _, d := range wild() {
		act := d.Act >= 0 && d.Act <= 16777215
		seq := d.Seq > 0 && d.Seq <= 1073741824
		if got := dots.May(d); got != (act && seq) {
			t.Errorf("May(%v): %v", d, got)
		}
	}
	for _, d := range []api.Dot{{}, api.Root(), api.Trash()} {
		if dots.May(d) {
			t.Errorf("May(%v)", d)
		}
	}
}

// P3.1: the order of dots, pair by pair.
func TestLess(t *testing.T) {
	for _, c := range []struct {
		a, b api.Dot
		want bool
	}{
		{dot(1, 1), dot(1, 1), false},
		{dot(1, 1), dot(1, 2), true},
		{dot(1, 2), dot(1, 1), false},
		{dot(1, 5), dot(2, 5), true},
		{dot(2, 5), dot(1, 5), false},
		{dot(1, 9), dot(2, 1), true},
		{dot(2, 1), dot(1, 9), false},
		{dot(-1, 0), dot(0, 0), true},
		{dot(0, -1), dot(0, 0), true},
		{api.Trash(), api.Root(), true},
		{api.Root(), api.Trash(), false},
		{dot(math.MinInt, 0), dot(math.MaxInt, 0), true},
		{dot(math.MaxInt, 0), dot(math.MinInt, 0), false},
		{dot(0, math.MinInt), dot(0, math.MaxInt), true},
		{dot(0, math.MaxInt), dot(0, math.MinInt), false},
		{dot(math.MinInt, math.MaxInt), dot(math.MaxInt, math.MinInt), true},
	} {
		if got := dots.Less(c.a, c.b); got != c.want {
			t.Errorf("Less(%v, %v): %v", c.a, c.b, got)
		}
	}
}

// P3.1: dots of any numbers, against their places in a row that is laid in order.
func TestLessOfAny(t *testing.T) {
	l := wild()
	for i, a := range l {
		for j, b := range l {
			if got := dots.Less(a, b); got != (i < j) {
				t.Fatalf("Less(%v, %v): %v", a, b, got)
			}
		}
	}
}
