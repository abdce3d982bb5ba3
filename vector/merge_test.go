package vector_test

import (
	"slices"
	"testing"

	"osier/api"
	"osier/vector"
)

// roomy is a row with room behind it, full of other dots, that isn't to be used.
func roomy(v api.Vector) api.Vector {
	more := append(slices.Clone(v), slices.Repeat(vec(77, 77), 9)...)
	return more[:len(v)]
}

// whole is a row with the room behind it.
func whole(v []api.Dot) []api.Dot { return v[:cap(v)] }

// spoil changes all of what a call answered, the room behind it too.
func spoil(v []api.Dot) {
	for i := range whole(v) {
		whole(v)[i] = dot(-99, i)
	}
}

// checkRow looks at a row that a call answers: the dots, that it is new memory, and that what was handed in, and the room behind it, stays as it was.
func checkRow(t *testing.T, what string, call func(a, b api.Vector) api.Vector, a, b, want api.Vector) {
	t.Helper()
	a, b = roomy(a), roomy(b)
	wasA, wasB := slices.Clone(whole(a)), slices.Clone(whole(b))
	got := call(a, b)
	if !slices.Equal(got, want) {
		t.Errorf("%s of %v and %v: %v, not %v", what, a, b, got, want)
	}
	again := call(a, b)
	spoil(got)
	if !slices.Equal(whole(a), wasA) || !slices.Equal(whole(b), wasB) {
		t.Errorf("%s of %v and %v: what was handed in is changed", what, wasA, wasB)
	}
	if !slices.Equal(again, want) {
		t.Errorf("%s of %v and %v: two answers share memory", what, a, b)
	}
	third := call(a, b)
	spoil(a)
	spoil(b)
	if !slices.Equal(third, want) {
		t.Errorf("%s of %v and %v: what is answered shares memory with what was handed in", what, wasA, wasB)
	}
}

// with is With of the one dot of b.
func with(a, b api.Vector) api.Vector { return vector.With(a, b[0]) }

// P4.2: a dot that is had, one that is above, and Acts that aren't there: ahead, between, behind.
func TestWith(t *testing.T) {
	v := vec(2, 5, 4, 1, 9, lastSeq)
	for _, c := range []struct {
		v    api.Vector
		d    api.Dot
		want api.Vector
	}{
		{nil, dot(0, 1), vec(0, 1)},
		{nil, dot(3, 8), vec(3, 8)},
		{nil, dot(lastAct, lastSeq), vec(lastAct, lastSeq)},
		{v, dot(2, 1), v},
		{v, dot(2, 4), v},
		{v, dot(2, 5), v},
		{v, dot(2, 6), vec(2, 6, 4, 1, 9, lastSeq)},
		{v, dot(2, lastSeq), vec(2, lastSeq, 4, 1, 9, lastSeq)},
		{v, dot(4, 1), v},
		{v, dot(4, 2), vec(2, 5, 4, 2, 9, lastSeq)},
		{v, dot(9, lastSeq), v},
		{v, dot(9, 1), v},
		{v, dot(0, 7), vec(0, 7, 2, 5, 4, 1, 9, lastSeq)},
		{v, dot(1, 1), vec(1, 1, 2, 5, 4, 1, 9, lastSeq)},
		{v, dot(3, 7), vec(2, 5, 3, 7, 4, 1, 9, lastSeq)},
		{v, dot(8, 7), vec(2, 5, 4, 1, 8, 7, 9, lastSeq)},
		{v, dot(10, 7), vec(2, 5, 4, 1, 9, lastSeq, 10, 7)},
		{v, dot(lastAct, 1), vec(2, 5, 4, 1, 9, lastSeq, lastAct, 1)},
	} {
		checkRow(t, "With", with, c.v, api.Vector{c.d}, c.want)
	}
}

// P4.2: with a dot that may not be it is the vector as it was, in new memory.
func TestWithWrongDots(t *testing.T) {
	for _, v := range vectors() {
		for _, d := range append(wrong(), api.Dot{}, api.Root(), api.Trash()) {
			checkRow(t, "With", with, v, api.Vector{d}, v)
		}
	}
}

// P4.2: the chapter's examples, and rows written out, turned too.
func TestMergeWrittenOut(t *testing.T) {
	for _, c := range []struct{ a, b, join, meet api.Vector }{
		{nil, nil, nil, nil},
		{vec(1, 3), nil, vec(1, 3), nil},
		{vec(1, 3, 2, 1), vec(2, 4), vec(1, 3, 2, 4), vec(2, 1)},
		{vec(1, 3), vec(1, 3), vec(1, 3), vec(1, 3)},
		{vec(1, 3), vec(1, 4), vec(1, 4), vec(1, 3)},
		{vec(1, 3), vec(2, 4), vec(1, 3, 2, 4), nil},
		{vec(0, 1), vec(lastAct, lastSeq), vec(0, 1, lastAct, lastSeq), nil},
		{vec(0, 1, lastAct, lastSeq), vec(0, lastSeq, lastAct, 1), vec(0, lastSeq, lastAct, lastSeq), vec(0, 1, lastAct, 1)},
		{vec(1, 1, 3, 3, 5, 5), vec(2, 2, 4, 4, 6, 6), vec(1, 1, 2, 2, 3, 3, 4, 4, 5, 5, 6, 6), nil},
		{vec(1, 1, 3, 3, 5, 5), vec(0, 9, 3, 4, 5, 4), vec(0, 9, 1, 1, 3, 4, 5, 5), vec(3, 3, 5, 4)},
		{vec(1, 1, 2, 2), vec(1, 2, 2, 1, 3, 7, 4, 8), vec(1, 2, 2, 2, 3, 7, 4, 8), vec(1, 1, 2, 1)},
	} {
		checkRow(t, "Join", vector.Join, c.a, c.b, c.join)
		checkRow(t, "Join", vector.Join, c.b, c.a, c.join)
		checkRow(t, "Meet", vector.Meet, c.a, c.b, c.meet)
		checkRow(t, "Meet", vector.Meet, c.b, c.a, c.meet)
	}
}

// slowMerge is made from a look at each Act of both rows, which are sorted at the end.
func slowMerge(a, b api.Vector, pick func(x, y int) bool) api.Vector {
	var out api.Vector
	for _, d := range append(slices.Clone(a), b...) {
		x, y := seqOf(a, d.Act), seqOf(b, d.Act)
		seq := y
		if pick(x, y) {
			seq = x
		}
		if seq > 0 && seqOf(out, d.Act) == 0 {
			out = append(out, dot(d.Act, seq))
		}
	}
	slices.SortFunc(out, func(x, y api.Dot) int { return x.Act - y.Act })
	return out
}

func slowJoin(a, b api.Vector) api.Vector {
	return slowMerge(a, b, func(x, y int) bool { return x > y })
}

func slowMeet(a, b api.Vector) api.Vector {
	return slowMerge(a, b, func(x, y int) bool { return x < y })
}

// P4.2: each two vectors.
func TestMerge(t *testing.T) {
	for _, a := range vectors() {
		for _, b := range vectors() {
			checkRow(t, "Join", vector.Join, a, b, slowJoin(a, b))
			checkRow(t, "Meet", vector.Meet, a, b, slowMeet(a, b))
		}
	}
}

// P4.2: both may be one piece of memory.
func TestMergeWithItself(t *testing.T) {
	for _, v := range vectors() {
		was := slices.Clone(v)
		if got := vector.Join(v, v); !slices.Equal(got, was) {
			t.Errorf("Join of %v with itself: %v", was, got)
		}
		if got := vector.Meet(v, v); !slices.Equal(got, was) {
			t.Errorf("Meet of %v with itself: %v", was, got)
		}
		if !slices.Equal(v, was) || !vector.Below(v, v) {
			t.Errorf("%v is changed, or not below itself", was)
		}
	}
}

// P4.2: both ways.
func TestBelow(t *testing.T) {
	for _, c := range []struct {
		a, b   api.Vector
		ab, ba bool
	}{
		{nil, nil, true, true},
		{nil, vec(1, 1), true, false},
		{vec(1, 1), vec(1, 1), true, true},
		{vec(1, 1), vec(1, 2), true, false},
		{vec(1, lastSeq-1), vec(1, lastSeq), true, false},
		{vec(1, 1), vec(2, 1), false, false},
		{vec(1, 1), vec(1, 1, 2, 1), true, false},
		{vec(2, 1), vec(1, 1, 2, 1), true, false},
		{vec(1, 2), vec(1, 1, 2, 1), false, false},
		{vec(1, 3, 2, 1), vec(2, 4), false, false},
		{vec(2, 4), vec(1, 3, 2, 4), true, false},
		{vec(1, 1, 3, 2), vec(1, 1, 2, 1, 3, 1), false, false},
		{vec(1, 1, 3, 1), vec(1, 1, 2, 1, 3, 1), true, false},
		{vec(1, 1, lastAct, 1), vec(1, 1), false, true},
	} {
		if got := vector.Below(c.a, c.b); got != c.ab {
			t.Errorf("Below(%v, %v): %v", c.a, c.b, got)
		}
		if got := vector.Below(c.b, c.a); got != c.ba {
			t.Errorf("Below(%v, %v): %v", c.b, c.a, got)
		}
	}
	for _, a := range vectors() {
		for _, b := range vectors() {
			want := true
			for _, d := range a {
				want = want && d.Seq <= seqOf(b, d.Act)
			}
			if got := vector.Below(a, b); got != want {
				t.Errorf("Below(%v, %v): %v", a, b, got)
			}
		}
	}
}

// small are all vectors of three Acts with Seqs to 2.
func small() []api.Vector {
	var l []api.Vector
	for n := range 27 {
		var v api.Vector
		for act, seq := range []int{n / 9, n / 3 % 3, n % 3} {
			if seq > 0 {
				v = append(v, dot(2*act, seq))
			}
		}
		l = append(l, v)
	}
	return l
}

// P4.5: Join is above both, and below whatever is above both; Meet below both, and above whatever is below both.
func TestLeastAndGreatest(t *testing.T) {
	for _, a := range small() {
		for _, b := range small() {
			join, meet := vector.Join(a, b), vector.Meet(a, b)
			if !vector.May(join) || !vector.May(meet) {
				t.Fatalf("Join and Meet of %v and %v: %v and %v", a, b, join, meet)
			}
			if !vector.Below(a, join) || !vector.Below(b, join) {
				t.Errorf("Join of %v and %v: %v", a, b, join)
			}
			if !vector.Below(meet, a) || !vector.Below(meet, b) {
				t.Errorf("Meet of %v and %v: %v", a, b, meet)
			}
			checkBetween(t, a, b, join, meet)
		}
	}
}

func checkBetween(t *testing.T, a, b, join, meet api.Vector) {
	t.Helper()
	for _, c := range small() {
		if vector.Below(a, c) && vector.Below(b, c) && !vector.Below(join, c) {
			t.Errorf("Join of %v and %v: %v; %v is above both", a, b, join, c)
		}
		if vector.Below(c, a) && vector.Below(c, b) && !vector.Below(c, meet) {
			t.Errorf("Meet of %v and %v: %v; %v is below both", a, b, meet, c)
		}
	}
}

// P4.2, P4.5: With is the least vector that has what v has, and the dot.
func TestWithIsLeast(t *testing.T) {
	for _, v := range small() {
		for act := range 6 {
			for seq := 1; seq <= 2; seq++ {
				d := dot(act, seq)
				got := vector.With(v, d)
				if !vector.May(got) || !vector.Below(v, got) || !vector.Has(got, d) {
					t.Errorf("With(%v, %v): %v", v, d, got)
				}
				for _, c := range small() {
					if vector.Below(v, c) && vector.Has(c, d) && !vector.Below(got, c) {
						t.Errorf("With(%v, %v): %v; %v has it, too", v, d, got, c)
					}
				}
			}
		}
	}
}

// vectorOf is a vector of one Act a byte.
func vectorOf(b []byte) api.Vector {
	var v api.Vector
	for act, x := range b {
		if x%8 > 0 {
			v = append(v, dot(act, int(x%8)))
		}
	}
	return v
}

// P4.2, P4.3, P4.5: any two vectors.
func FuzzVectors(f *testing.F) {
	f.Add([]byte{}, []byte{1}, 1)
	f.Add([]byte{3, 0, 1, 2}, []byte{0, 4, 1, 1, 7}, 3)
	f.Fuzz(func(t *testing.T, x, y []byte, most int) {
		a, b := vectorOf(x), vectorOf(y)
		checkRow(t, "Join", vector.Join, a, b, slowJoin(a, b))
		checkRow(t, "Meet", vector.Meet, a, b, slowMeet(a, b))
		checkMissing(t, a, b, most, slowMissing(a, b, most))
		checkPut(t, a, bytesOf(a))
		if vector.Same(a, b) != (vector.Below(a, b) && vector.Below(b, a)) {
			t.Errorf("Same(%v, %v)", a, b)
		}
		if all := vector.Missing(a, b, 1<<30); len(all) != vector.Count(a)-vector.Count(vector.Meet(a, b)) {
			t.Errorf("Missing(%v, %v): %v", a, b, all)
		}
	})
}
