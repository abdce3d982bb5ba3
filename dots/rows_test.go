package dots_test

import (
	"maps"
	"math/rand/v2"
	"slices"
	"testing"

	"osier/api"
	"osier/dots"
)

// has tells whether a dot stands in a row.
func has(l []api.Dot, d api.Dot) bool {
	for _, x := range l {
		if x.Act == d.Act && x.Seq == d.Seq {
			return true
		}
	}
	return false
}

// sorted are those dots of a row that are wanted, each put in ahead of the first one that is greater.
func sorted(l []api.Dot, wanted func(api.Dot) bool) []api.Dot {
	var out []api.Dot
	for _, d := range l {
		if !wanted(d) || has(out, d) {
			continue
		}
		at := 0
		for at < len(out) && (out[at].Act < d.Act || out[at].Act == d.Act && out[at].Seq < d.Seq) {
			at++
		}
		out = slices.Insert(out, at, d)
	}
	return out
}

// all wants each dot.
func all(api.Dot) bool { return true }

// join is both rows, one behind the other, in new memory.
func join(a, b []api.Dot) []api.Dot {
	return append(append([]api.Dot(nil), a...), b...)
}

// roomy is a row with room behind it, full of other dots, that isn't to be used.
func roomy(l []api.Dot) []api.Dot {
	more := join(l, slices.Repeat([]api.Dot{dot(77, 77)}, 9))
	return more[:len(l)]
}

// whole is a row with the room behind it.
func whole(l []api.Dot) []api.Dot { return l[:cap(l)] }

// spoil changes all of what a call answered, the room behind it too.
func spoil(l []api.Dot) {
	for i := range whole(l) {
		whole(l)[i] = dot(-99, i)
	}
}

// samples are rows: empty, of one dot, of the same dot, in order and out of it, of dots that may not be, long.
func samples() [][]api.Dot {
	falling := wild()
	slices.Reverse(falling)
	var long []api.Dot
	r := rand.New(rand.NewPCG(3, 1))
	for range 600 {
		long = append(long, dot(r.IntN(20), r.IntN(20)))
	}
	return [][]api.Dot{
		nil,
		{},
		{{}},
		{dot(1, 1)},
		{dot(1, 2)},
		{dot(1, 1), dot(1, 1), dot(1, 1)},
		{dot(1, 1), dot(1, 2)},
		{dot(1, 2), dot(3, 1)},
		{dot(2, 1), dot(1, 9), dot(2, 1)},
		{dot(3, 1), dot(1, 2), dot(1, 1), dot(1, 2), dot(3, 1)},
		{dot(1, 2), dot(2, 1)},
		{dot(2, 1), dot(1, 2)},
		{api.Root(), api.Trash(), {}, api.Root(), dot(0, 1)},
		{dot(-5, 3), dot(5, -3), dot(-5, -3), dot(5, 3), dot(-5, 3)},
		{dot(4, 4), dot(4, 5), dot(4, 6), dot(4, 7)},
		falling,
		long,
	}
}

// checkRow looks at a row that a call answers: the dots, that it is new memory, and that what was handed in, and the room behind it, stays as it was.
func checkRow(t *testing.T, what string, call func(a, b []api.Dot) []api.Dot, a, b, want []api.Dot) {
	t.Helper()
	a, b = roomy(a), roomy(b)
	wasA, wasB := slices.Clone(whole(a)), slices.Clone(whole(b))
	got := call(a, b)
	if !slices.Equal(got, want) {
		t.Errorf("%s of %v and %v: %v, not %v", what, a, b, got, want)
	}
	again := call(a, b)
	spoil(got)
	if !slices.Equal(whole(a), wasA) || !slices.Equal(whole(b), wasB) {
		t.Errorf("%s of %v and %v: what was handed in is changed", what, wasA, wasB)
	}
	if !slices.Equal(again, want) {
		t.Errorf("%s of %v and %v: two answers share memory", what, a, b)
	}
	third := call(a, b)
	spoil(a)
	spoil(b)
	if !slices.Equal(third, want) {
		t.Errorf("%s of %v and %v: what is answered shares memory with what was handed in", what, wasA, wasB)
	}
}

// rising is Rising of a row; there is no other one.
func rising(a, _ []api.Dot) []api.Dot { return dots.Rising(a) }

// P3.2: the chapter's examples, and rows written out.
func TestRowsWrittenOut(t *testing.T) {
	a, b, c := dot(1, 1), dot(1, 2), dot(3, 1)
	for _, x := range []struct {
		what       string
		call       func(a, b []api.Dot) []api.Dot
		a, b, want []api.Dot
	}{
		{"Rising", rising, []api.Dot{dot(2, 1), dot(1, 9), dot(2, 1)}, nil, []api.Dot{dot(1, 9), dot(2, 1)}},
		{"Rising", rising, nil, nil, nil},
		{"Rising", rising, []api.Dot{c}, nil, []api.Dot{c}},
		{"Rising", rising, []api.Dot{c, c}, nil, []api.Dot{c}},
		{"Rising", rising, []api.Dot{c, b, a, b}, nil, []api.Dot{a, b, c}},
		{"Rising", rising, []api.Dot{api.Root(), {}, api.Trash(), dot(-1, 5)}, nil, []api.Dot{dot(-1, 5), api.Trash(), api.Root(), {}}},
		{"Union", dots.Union, nil, nil, nil},
		{"Union", dots.Union, []api.Dot{b, a, b}, nil, []api.Dot{a, b}},
		{"Union", dots.Union, nil, []api.Dot{b, a, b}, []api.Dot{a, b}},
		{"Union", dots.Union, []api.Dot{b}, []api.Dot{c, a}, []api.Dot{a, b, c}},
		{"Union", dots.Union, []api.Dot{b, c}, []api.Dot{c, b}, []api.Dot{b, c}},
		{"Meet", dots.Meet, nil, nil, nil},
		{"Meet", dots.Meet, []api.Dot{a}, nil, nil},
		{"Meet", dots.Meet, nil, []api.Dot{a}, nil},
		{"Meet", dots.Meet, []api.Dot{a}, []api.Dot{b, c}, nil},
		{"Meet", dots.Meet, []api.Dot{c, b, c, a}, []api.Dot{b, c, c}, []api.Dot{b, c}},
		{"Minus", dots.Minus, []api.Dot{a, b}, []api.Dot{b, c}, []api.Dot{a}},
		{"Minus", dots.Minus, nil, nil, nil},
		{"Minus", dots.Minus, nil, []api.Dot{a}, nil},
		{"Minus", dots.Minus, []api.Dot{c, a, c}, nil, []api.Dot{a, c}},
		{"Minus", dots.Minus, []api.Dot{c, a, c, a}, []api.Dot{a}, []api.Dot{c}},
		{"Minus", dots.Minus, []api.Dot{c, a}, []api.Dot{a, c}, nil},
	} {
		checkRow(t, x.what, x.call, x.a, x.b, x.want)
	}
}

// P3.2: Rising of each row, forth and back and twice over.
func TestRising(t *testing.T) {
	for _, l := range samples() {
		want := sorted(l, all)
		checkRow(t, "Rising", rising, l, nil, want)
		back := slices.Clone(l)
		slices.Reverse(back)
		checkRow(t, "Rising", rising, back, nil, want)
		checkRow(t, "Rising", rising, join(l, back), nil, want)
		checkRow(t, "Rising", rising, want, nil, want)
	}
}

// P3.2: Union, Meet and Minus of each two rows, the same one among them.
func TestTwoRows(t *testing.T) {
	for _, a := range samples() {
		for _, b := range samples() {
			checkRow(t, "Union", dots.Union, a, b, sorted(join(a, b), all))
			checkRow(t, "Meet", dots.Meet, a, b, sorted(a, func(d api.Dot) bool { return has(b, d) }))
			checkRow(t, "Minus", dots.Minus, a, b, sorted(a, func(d api.Dot) bool { return !has(b, d) }))
		}
	}
}

// P3.2: both rows may be one piece of memory.
func TestOneRowTwice(t *testing.T) {
	for _, l := range samples() {
		was := slices.Clone(l)
		want := sorted(l, all)
		if got := dots.Union(l, l); !slices.Equal(got, want) {
			t.Errorf("Union of %v with itself: %v", was, got)
		}
		if got := dots.Meet(l, l); !slices.Equal(got, want) {
			t.Errorf("Meet of %v with itself: %v", was, got)
		}
		if got := dots.Minus(l, l); len(got) != 0 {
			t.Errorf("Minus of %v with itself: %v", was, got)
		}
		if !slices.Equal(l, was) {
			t.Errorf("%v is changed", was)
		}
	}
}

// P3.2: the first place of each dot, and no other keys.
func TestPlaces(t *testing.T) {
	a, b := dot(1, 1), dot(2, 1)
	got := dots.Places([]api.Dot{b, a, b, {}, a, b})
	if want := (map[api.Dot]int{b: 0, a: 1, {}: 3}); !maps.Equal(got, want) {
		t.Errorf("%v, not %v", got, want)
	}
	for _, l := range samples() {
		want := map[api.Dot]int{}
		for at := len(l) - 1; at >= 0; at-- {
			want[l[at]] = at
		}
		handed := roomy(l)
		was := slices.Clone(whole(handed))
		places := dots.Places(handed)
		if !maps.Equal(places, want) {
			t.Errorf("Places of %v: %v, not %v", l, places, want)
		}
		again := dots.Places(handed)
		clear(places)
		if !slices.Equal(whole(handed), was) {
			t.Errorf("Places of %v: what was handed in is changed", l)
		}
		spoil(handed)
		if !maps.Equal(again, want) {
			t.Errorf("Places of %v: what is answered shares memory", l)
		}
	}
}

// P3.2: the order in which a map is gone through is not to be seen.
func TestSameAnswers(t *testing.T) {
	for _, l := range samples() {
		first := dots.Rising(l)
		for range 20 {
			if again := dots.Rising(l); !slices.Equal(again, first) {
				t.Fatalf("Rising of %v: %v, then %v", l, first, again)
			}
		}
	}
}

// P3.4: what follows for each two rows.
func TestRowsFollow(t *testing.T) {
	for _, a := range samples() {
		for _, b := range samples() {
			checkFollows(t, a, b)
		}
	}
}

func checkFollows(t *testing.T, a, b []api.Dot) {
	t.Helper()
	if x, y := dots.Union(a, b), dots.Union(b, a); !slices.Equal(x, y) {
		t.Errorf("Union of %v and %v: %v; turned %v", a, b, x, y)
	}
	if x, y := dots.Meet(a, b), dots.Meet(b, a); !slices.Equal(x, y) {
		t.Errorf("Meet of %v and %v: %v; turned %v", a, b, x, y)
	}
	minus, meet, rows := dots.Minus(a, b), dots.Meet(a, b), dots.Rising(a)
	if x := dots.Union(minus, meet); !slices.Equal(x, rows) {
		t.Errorf("Union of Minus and Meet of %v and %v: %v, not %v", a, b, x, rows)
	}
	if len(minus)+len(meet) != len(rows) {
		t.Errorf("Minus and Meet of %v and %v share dots: %v and %v", a, b, minus, meet)
	}
	for i := range rows {
		if i > 0 && !dots.Less(rows[i-1], rows[i]) {
			t.Errorf("Rising of %v: %v does not rise", a, rows)
		}
	}
}

// P3.2, P3.4: rows of few dots, so that many are the same.
func FuzzRows(f *testing.F) {
	f.Add([]byte{}, []byte{1})
	f.Add([]byte{1, 2, 2, 0x80}, []byte{2, 0xff, 0x80, 3})
	f.Fuzz(func(t *testing.T, x, y []byte) {
		a, b := rowOf(x), rowOf(y)
		checkRow(t, "Rising", rising, a, nil, sorted(a, all))
		checkRow(t, "Union", dots.Union, a, b, sorted(join(a, b), all))
		checkRow(t, "Meet", dots.Meet, a, b, sorted(a, func(d api.Dot) bool { return has(b, d) }))
		checkRow(t, "Minus", dots.Minus, a, b, sorted(a, func(d api.Dot) bool { return !has(b, d) }))
		checkFollows(t, a, b)
	})
}

// rowOf is a row of one dot a byte.
func rowOf(b []byte) []api.Dot {
	var l []api.Dot
	for _, x := range b {
		l = append(l, dot(int(x>>4)-3, int(x&15)-3))
	}
	return l
}
