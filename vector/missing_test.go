package vector_test

import (
	"math"
	"slices"
	"testing"

	"osier/api"
	"osier/vector"
)

// slowMissing are all dots that a has, tried one by one, down from the greatest Seq, and then turned.
func slowMissing(a, b api.Vector, most int) []api.Dot {
	var all []api.Dot
	for _, d := range slices.Backward(a) {
		for seq := d.Seq; seq >= 1; seq-- {
			if seq > seqOf(b, d.Act) {
				all = append(all, dot(d.Act, seq))
			}
		}
	}
	slices.Reverse(all)
	return all[:max(0, min(most, len(all)))]
}

// checkMissing looks at the dots, and at whose memory they are.
func checkMissing(t *testing.T, a, b api.Vector, most int, want []api.Dot) {
	t.Helper()
	call := func(a, b api.Vector) api.Vector { return vector.Missing(a, b, most) }
	checkRow(t, "Missing", call, a, b, want)
}

// P4.3: the chapter's example, and rows written out.
func TestMissingWrittenOut(t *testing.T) {
	a := vec(1, 3, 2, 1)
	all := []api.Dot{dot(1, 1), dot(1, 2), dot(1, 3), dot(2, 1)}
	for _, c := range []struct {
		a, b api.Vector
		most int
		want []api.Dot
	}{
		{a, vec(1, 1), 2, []api.Dot{dot(1, 2), dot(1, 3)}},
		{a, vec(1, 1), 3, []api.Dot{dot(1, 2), dot(1, 3), dot(2, 1)}},
		{a, vec(1, 1), 1, []api.Dot{dot(1, 2)}},
		{a, nil, 9, all},
		{a, nil, 5, all},
		{a, nil, 4, all},
		{a, nil, 3, all[:3]},
		{a, nil, 2, all[:2]},
		{a, nil, 1, all[:1]},
		{a, nil, 0, nil},
		{a, nil, -1, nil},
		{a, nil, math.MinInt, nil},
		{a, nil, math.MaxInt, all},
		{nil, nil, 5, nil},
		{nil, a, 5, nil},
		{a, a, 5, nil},
		{a, vec(1, 4, 2, 2), 5, nil},
		{a, vec(0, 9, 3, 9), 9, all},
		{a, vec(2, 1), 9, all[:3]},
		{a, vec(1, 3), 9, all[3:]},
		{a, vec(1, 7), 9, all[3:]},
		{vec(2, 1, 5, 2), vec(1, 3, 2, 2, 5, 1), 9, []api.Dot{dot(5, 2)}},
		{vec(0, lastSeq, lastAct, lastSeq), vec(0, lastSeq-1, lastAct, lastSeq-2), math.MaxInt,
			[]api.Dot{dot(0, lastSeq), dot(lastAct, lastSeq-1), dot(lastAct, lastSeq)}},
	} {
		checkMissing(t, c.a, c.b, c.most, c.want)
	}
}

// P4.3: far more are missing than are asked for.
func TestMissingOfMany(t *testing.T) {
	a := vec(3, lastSeq, 4, lastSeq, lastAct, lastSeq)
	checkMissing(t, a, nil, 2, []api.Dot{dot(3, 1), dot(3, 2)})
	checkMissing(t, a, nil, 0, nil)
	checkMissing(t, a, nil, -5, nil)
	checkMissing(t, a, vec(3, lastSeq-1, 4, 7), 3, []api.Dot{dot(3, lastSeq), dot(4, 8), dot(4, 9)})
	got := vector.Missing(a, vec(3, 10), 100000)
	if len(got) != 100000 {
		t.Fatalf("%d dots", len(got))
	}
	for i, d := range got {
		if d != dot(3, 11+i) {
			t.Fatalf("%v at %d", d, i)
		}
	}
}

// P4.3: each two vectors of small Seqs, with each bound to beyond how many there are.
func TestMissing(t *testing.T) {
	for _, a := range small() {
		for _, b := range small() {
			for most := -1; most <= 8; most++ {
				checkMissing(t, a, b, most, slowMissing(a, b, most))
			}
		}
	}
}

// P4.3: what is missing is had by a, not by b, rises, and is all that b lacks of the Join.
func TestMissingBrings(t *testing.T) {
	for _, a := range small() {
		for _, b := range small() {
			l := vector.Missing(a, b, 99)
			v := b
			for _, d := range l {
				if !vector.Has(a, d) || vector.Has(v, d) {
					t.Errorf("Missing(%v, %v): %v", a, b, l)
				}
				v = vector.With(v, d)
			}
			if !vector.Same(v, vector.Join(a, b)) {
				t.Errorf("Missing(%v, %v): %v, which brings %v", a, b, l, v)
			}
		}
	}
}
