package vector_test

import (
	"math"
	"slices"
	"testing"

	"osier/api"
	"osier/num"
	"osier/vector"
)

// The calls, with just the signatures that the chapter lists.
var (
	_ func(api.Vector) bool                       = vector.May
	_ func(api.Vector, int) int                   = vector.Get
	_ func(api.Vector, api.Dot) bool              = vector.Has
	_ func(api.Vector, api.Dot) api.Vector        = vector.With
	_ func(api.Vector, api.Vector) api.Vector     = vector.Join
	_ func(api.Vector, api.Vector) api.Vector     = vector.Meet
	_ func(api.Vector, api.Vector) bool           = vector.Below
	_ func(api.Vector, api.Vector) bool           = vector.Same
	_ func(api.Vector) int                        = vector.Count
	_ func(api.Vector, api.Vector, int) []api.Dot = vector.Missing
	_ func([]byte, api.Vector) []byte             = vector.Put
	_ func(*num.Reader) api.Vector                = vector.Take
)

const (
	lastAct = api.MaxActor - 1
	lastSeq = api.MaxSeq
)

// dot is the dot act.seq.
func dot(act, seq int) api.Dot { return api.Dot{Act: act, Seq: seq} }

// vec is a vector of Acts and Seqs, by turns.
func vec(n ...int) api.Vector {
	var v api.Vector
	for i := 0; i+1 < len(n); i += 2 {
		v = append(v, dot(n[i], n[i+1]))
	}
	return v
}

// wrong are dots that may not be: at and beyond both bounds of both numbers.
func wrong() []api.Dot {
	var l []api.Dot
	for _, act := range []int{math.MinInt, -1 << 40, -api.MaxActor, -2, -1, api.MaxActor, api.MaxActor + 1, 1 << 32, math.MaxInt} {
		l = append(l, dot(act, 1), dot(act, 2), dot(act, lastSeq))
	}
	for _, seq := range []int{math.MinInt, -1 << 40, -api.MaxSeq, -2, -1, 0, api.MaxSeq + 1, 1<<32 + 1, math.MaxInt} {
		l = append(l, dot(0, seq), dot(1, seq), dot(lastAct, seq))
	}
	return append(l, dot(-1, 0), dot(api.MaxActor, api.MaxSeq+1), dot(math.MinInt, math.MaxInt), dot(math.MaxInt, math.MinInt))
}

// vectors are some that may be: empty, of one dot, at both bounds, sharing Acts and not.
func vectors() []api.Vector {
	var long api.Vector
	for act := range 300 {
		long = append(long, dot(3*act, act%7+1))
	}
	return []api.Vector{
		nil,
		{},
		vec(0, 1),
		vec(0, lastSeq),
		vec(1, 1),
		vec(1, 2),
		vec(1, 3, 2, 1),
		vec(2, 4),
		vec(2, 1),
		vec(1, 1, 2, 4, 3, 2),
		vec(0, 5, 4, 5, 9, 5),
		vec(1, 5, 4, 4, 9, 6),
		vec(lastAct, 1),
		vec(lastAct, lastSeq),
		vec(0, 1, lastAct, lastSeq),
		vec(0, lastSeq, lastAct, 1),
		long,
		long[100:200],
	}
}

// seqOf is an Act's Seq, found by a look at each dot.
func seqOf(v api.Vector, act int) int {
	for _, d := range v {
		if d.Act == act {
			return d.Seq
		}
	}
	return 0
}

// P4.1: rows that may be a vector.
func TestMay(t *testing.T) {
	for _, v := range vectors() {
		if !vector.May(v) {
			t.Errorf("%v may not be", v)
		}
	}
}

// P4.1: one dot that may not be, at each place of a row.
func TestMayOfWrongDots(t *testing.T) {
	for _, d := range wrong() {
		if vector.May(api.Vector{d}) {
			t.Errorf("%v may be", d)
		}
	}
	for _, seq := range []int{math.MinInt, -1, 0, lastSeq + 1, math.MaxInt} {
		for i := range 3 {
			v := vec(1, 2, 4, 2, 6, 2)
			v[i].Seq = seq
			if vector.May(v) {
				t.Errorf("%v may be", v)
			}
		}
	}
	for _, v := range []api.Vector{
		vec(-1, 1, 0, 1), vec(math.MinInt, 1, 0, 1), vec(0, 1, api.MaxActor, 1), vec(0, 1, math.MaxInt, 1),
		vec(-2, 1, -1, 1), vec(api.MaxActor, 1, api.MaxActor+1, 1), {{}}, {api.Root()}, {api.Trash()},
	} {
		if vector.May(v) {
			t.Errorf("%v may be", v)
		}
	}
}

// P4.1: Acts that fall, and an Act that stands there twice, at each place.
func TestMayOfWrongOrder(t *testing.T) {
	for _, v := range []api.Vector{
		vec(2, 4, 1, 3), vec(1, 1, 0, 1), vec(lastAct, 1, 0, 1),
		vec(1, 1, 1, 1), vec(1, 1, 1, 2), vec(1, 2, 1, 1), vec(0, 1, 0, 2), vec(lastAct, 1, lastAct, 2),
		vec(1, 1, 2, 1, 2, 2), vec(1, 1, 1, 2, 2, 1), vec(1, 1, 2, 1, 1, 1), vec(1, 1, 2, 1, 1, 2),
		vec(1, 1, 3, 1, 2, 1), vec(3, 1, 1, 1, 2, 1), vec(1, 1, 2, 2, 3, 3, 3, 4), vec(1, 1, 2, 2, 4, 3, 3, 4),
	} {
		if vector.May(v) {
			t.Errorf("%v may be", v)
		}
	}
}

// P4.1: an Act that is there, and ones ahead of the first, between two and behind the last.
func TestGet(t *testing.T) {
	v := vec(2, 5, 4, 1, 9, 7)
	for _, c := range []struct{ act, want int }{
		{math.MinInt, 0}, {-1, 0}, {0, 0}, {1, 0}, {2, 5}, {3, 0}, {4, 1}, {5, 0}, {8, 0}, {9, 7}, {10, 0}, {lastAct, 0}, {api.MaxActor, 0}, {math.MaxInt, 0},
	} {
		if got := vector.Get(v, c.act); got != c.want {
			t.Errorf("Get(%v, %d): %d, not %d", v, c.act, got, c.want)
		}
	}
	for _, v := range vectors() {
		for _, act := range acts(v) {
			if got, want := vector.Get(v, act), seqOf(v, act); got != want {
				t.Errorf("Get(%v, %d): %d, not %d", v, act, got, want)
			}
		}
	}
}

// acts are a vector's Acts, those beside them, and some far off.
func acts(v api.Vector) []int {
	l := []int{math.MinInt, -1, 0, 1, lastAct, api.MaxActor, math.MaxInt}
	for _, d := range v {
		l = append(l, d.Act-1, d.Act, d.Act+1)
	}
	return l
}

// P4.1: dots at, below and above the Seq of their Act, and of Acts that aren't there.
func TestHas(t *testing.T) {
	v := vec(0, 1, 2, 5, 9, lastSeq)
	for _, c := range []struct {
		d    api.Dot
		want bool
	}{
		{dot(0, 1), true}, {dot(0, 2), false}, {dot(0, lastSeq), false},
		{dot(2, 1), true}, {dot(2, 4), true}, {dot(2, 5), true}, {dot(2, 6), false}, {dot(2, lastSeq), false},
		{dot(9, 1), true}, {dot(9, lastSeq-1), true}, {dot(9, lastSeq), true},
		{dot(1, 1), false}, {dot(3, 1), false}, {dot(10, 1), false}, {dot(lastAct, lastSeq), false},
	} {
		if got := vector.Has(v, c.d); got != c.want {
			t.Errorf("Has(%v, %v): %v", v, c.d, got)
		}
	}
	for _, v := range vectors() {
		for _, act := range acts(v) {
			for _, seq := range []int{1, seqOf(v, act) - 1, seqOf(v, act), seqOf(v, act) + 1, lastSeq} {
				may := act >= 0 && act <= lastAct && seq >= 1 && seq <= lastSeq
				if got := vector.Has(v, dot(act, seq)); got != (may && seq <= seqOf(v, act)) {
					t.Errorf("Has(%v, %d.%d): %v", v, act, seq, got)
				}
			}
		}
	}
}

// P4.1: no vector has a dot that may not be, also where its Act is there, and its Seq below that one's.
func TestHasOfWrongDots(t *testing.T) {
	for _, v := range vectors() {
		for _, d := range append(wrong(), api.Dot{}, api.Root(), api.Trash()) {
			if vector.Has(v, d) {
				t.Errorf("Has(%v, %v)", v, d)
			}
		}
	}
}

// P4.1: the sum of all Seqs, great ones too.
func TestCount(t *testing.T) {
	for _, c := range []struct {
		v    api.Vector
		want int
	}{
		{nil, 0}, {api.Vector{}, 0}, {vec(0, 1), 1}, {vec(7, 1), 1}, {vec(1, 3, 2, 1), 4},
		{vec(0, lastSeq), 1 << 30}, {vec(0, lastSeq, 1, lastSeq, 2, lastSeq, 3, lastSeq), 1 << 32}, {vec(0, lastSeq, 5, 1), 1<<30 + 1},
	} {
		if got := vector.Count(c.v); got != c.want {
			t.Errorf("Count(%v): %d, not %d", c.v, got, c.want)
		}
	}
	var great api.Vector
	for act := range 1 << 16 {
		great = append(great, dot(act, lastSeq))
	}
	if got := vector.Count(great); got != 1<<46 {
		t.Errorf("Count of 2^16 Acts with 2^30 each: %d", got)
	}
}

// P4.1: each two vectors have the same, or not; nil and empty are one.
func TestSame(t *testing.T) {
	for i, a := range vectors() {
		for j, b := range vectors() {
			// The first two are the empty vector, all others differ.
			want := i == j || i < 2 && j < 2
			if got := vector.Same(a, b); got != want {
				t.Errorf("Same(%v, %v): %v", a, b, got)
			}
			if got := vector.Same(slices.Clone(a), b); got != want {
				t.Errorf("Same of a copy of %v, and %v: %v", a, b, got)
			}
		}
	}
	for _, b := range []api.Vector{nil, vec(1, 3), vec(2, 1), vec(1, 3, 2, 2), vec(1, 2, 2, 1), vec(1, 3, 3, 1), vec(0, 3, 2, 1), vec(1, 3, 2, 1, 3, 1), vec(0, 1, 1, 3, 2, 1), vec(1, 1, 2, 3)} {
		if a := vec(1, 3, 2, 1); vector.Same(a, b) || vector.Same(b, a) {
			t.Errorf("Same(%v, %v)", a, b)
		}
	}
}

// Rule 1: of vectors and dots that may not be there is some answer, and an end.
func TestSomeAnswer(t *testing.T) {
	var l []api.Vector
	for _, d := range wrong() {
		l = append(l, api.Vector{d}, api.Vector{dot(1, 2), d}, api.Vector{d, dot(1, 2)}, api.Vector{d, d, dot(math.MinInt, math.MaxInt)})
	}
	for _, a := range l {
		for _, b := range append(l, vectors()...) {
			vector.Join(a, b)
			vector.Join(b, a)
			vector.Meet(a, b)
			vector.Meet(b, a)
			vector.Below(a, b)
			vector.Below(b, a)
			vector.Same(a, b)
			vector.Missing(a, b, math.MaxInt)
			vector.Missing(b[:min(len(b), 1)], a, 5)
		}
		for _, d := range wrong() {
			vector.Get(a, d.Act)
			vector.Has(a, d)
			vector.With(a, d)
		}
		vector.With(a, dot(1, 1))
		vector.Count(a)
		vector.Put(nil, a)
	}
}
