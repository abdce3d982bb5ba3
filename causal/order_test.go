package causal_test

import (
	"math/rand/v2"
	"reflect"
	"slices"
	"testing"

	"osier/api"
	"osier/causal"
	"osier/ops"
)

// checkOrder looks at both answers of Order: what they are, that each is new memory, and that what was handed in stays as it was.
func checkOrder(t *testing.T, l, in, left []api.Op) {
	t.Helper()
	l = roomy(l)
	was := copied(l)
	gotIn, gotLeft := causal.Order(l)
	if !sameRows(gotIn, in) || !sameRows(gotLeft, left) {
		t.Fatalf("Order of %s: %s and %s, not %s and %s", told(l), told(gotIn), told(gotLeft), told(in), told(left))
	}
	againIn, againLeft := causal.Order(l)
	spoil(gotIn)
	if !sameRows(gotLeft, left) {
		t.Fatalf("Order of %s: both answers share memory", told(was))
	}
	spoil(gotLeft)
	if !reflect.DeepEqual(whole(l), whole(was)) {
		t.Fatalf("Order of %s: what was handed in is changed", told(was))
	}
	if !sameRows(againIn, in) || !sameRows(againLeft, left) {
		t.Fatalf("Order of %s: two answers share memory", told(was))
	}
	spoil(l)
	if !sameRows(againIn, in) || !sameRows(againLeft, left) {
		t.Fatalf("Order of %s: what is answered shares memory with what was handed in", told(was))
	}
	// The Deps of one operation aren't those of another one, either.
	for i := range againIn {
		spoilDots(againIn[i].Deps)
		if !sameRows(againIn[i+1:], in[i+1:]) || !sameRows(againLeft, left) {
			t.Fatalf("Order of %s: Deps share memory", told(was))
		}
	}
	for i := range againLeft {
		spoilDots(againLeft[i].Deps)
		if !sameRows(againLeft[i+1:], left[i+1:]) {
			t.Fatalf("Order of %s: Deps share memory", told(was))
		}
	}
}

// P8.2: of nothing there is nothing.
func TestOrderOfNothing(t *testing.T) {
	for _, l := range [][]api.Op{nil, {}} {
		if in, left := causal.Order(l); len(in)+len(left) != 0 {
			t.Errorf("Order of nothing: %s and %s", told(in), told(left))
		}
	}
	checkOrder(t, nil, nil, nil)
}

// P8.2: the chapter's examples.
func TestOrderExamples(t *testing.T) {
	first, second := op(1, 1, 1), op(1, 2, 2, 1, 1)
	checkOrder(t, []api.Op{second, first}, []api.Op{first, second}, nil)
	checkOrder(t, []api.Op{second}, nil, []api.Op{second})
}

// P8.2: what may not be doesn't count: it is in neither answer, and nothing that leans on it is taken in.
func TestOrderOfWrong(t *testing.T) {
	first := op(1, 1, 1)
	second := op(1, 2, 2, 1, 1)
	other := op(2, 1, 3)
	for _, w := range wrongOf(first) {
		checkOrder(t, []api.Op{w}, nil, nil)
		checkOrder(t, []api.Op{w, w, other}, []api.Op{other}, nil)
		checkOrder(t, []api.Op{second, w, other}, []api.Op{other}, []api.Op{second})
	}
	for _, w := range wrongOf(second) {
		checkOrder(t, []api.Op{w, first}, []api.Op{first}, nil)
	}
	for _, d := range noDots() {
		checkOrder(t, []api.Op{op(d.Act, d.Seq, 1), first, op(d.Act, d.Seq, 1)}, []api.Op{first}, nil)
	}
	checkOrder(t, []api.Op{{}, {}}, nil, nil)
}

// P8.2: of several with one Id the first one counts, also where it is never taken in; one that may not be isn't the first.
func TestOrderOfOneId(t *testing.T) {
	a, b := op(1, 1, 5), keyed(op(1, 1, 1), "m")
	checkOrder(t, []api.Op{a, b}, []api.Op{a}, nil)
	checkOrder(t, []api.Op{b, a}, []api.Op{b}, nil)
	checkOrder(t, []api.Op{a, a, b, a}, []api.Op{a}, nil)
	stuck := keyed(op(1, 1, 9, 7, 1), "k")
	checkOrder(t, []api.Op{stuck, a}, nil, []api.Op{stuck})
	checkOrder(t, []api.Op{a, stuck}, []api.Op{a}, nil)
	leans := op(1, 2, 9, 1, 1)
	checkOrder(t, []api.Op{leans, stuck, a}, nil, []api.Op{stuck, leans})
	checkOrder(t, []api.Op{leans, b, stuck, a}, []api.Op{b, leans}, nil)
	for _, w := range wrongOf(a) {
		checkOrder(t, []api.Op{w, a, b}, []api.Op{a}, nil)
		checkOrder(t, []api.Op{w, b, w, a}, []api.Op{b}, nil)
		checkOrder(t, []api.Op{w, stuck, a}, nil, []api.Op{stuck})
	}
	// Which one counts tells when it is taken in, and what is ahead of it.
	late, early := op(2, 1, 8, 3, 1), keyed(op(2, 1, 2), "m")
	root := op(3, 1, 4)
	checkOrder(t, []api.Op{root, late, early}, []api.Op{root, late}, nil)
	checkOrder(t, []api.Op{root, early, late}, []api.Op{early, root}, nil)
}

// P8.2: operations that lean on one another, in all orders.
func TestOrderOfLeaning(t *testing.T) {
	want := []api.Op{op(1, 1, 1), op(1, 2, 2, 1, 1), op(2, 1, 3, 1, 2), op(1, 3, 4, 1, 2, 2, 1), op(0, 1, 5, 1, 3, 2, 1)}
	for _, l := range orders(want) {
		checkOrder(t, l, want, nil)
	}
	// Times say nothing against Deps.
	want = []api.Op{op(1, 1, 9), op(1, 2, 8, 1, 1), op(2, 1, 7, 1, 2), op(1, 3, 6, 1, 2, 2, 1), op(0, 1, 5, 1, 3, 2, 1)}
	for _, l := range orders(want) {
		checkOrder(t, l, want, nil)
	}
}

// P8.2: of those that are Ready at once the least one by ops.Less: by Time, then by Act.
func TestOrderOfReady(t *testing.T) {
	want := []api.Op{op(9, 1, 1), op(0, 1, 2), op(3, 1, 2), op(4, 1, 2), op(2, 1, api.MaxTime)}
	for _, l := range orders(want) {
		checkOrder(t, l, want, nil)
	}
}

// P8.2: what is made Ready by one that is taken in comes next, if it is less than all others that are Ready, and else in its turn.
func TestOrderOfMadeReady(t *testing.T) {
	want := []api.Op{
		op(2, 1, 4),
		op(5, 1, 1, 2, 1), // less than 2.1, and than 3.1
		op(0, 1, 2, 5, 1),
		op(3, 1, 5),
		op(2, 2, 6, 2, 1), // greater than 3.1, though it was Ready ahead of it
		op(4, 1, 7),
	}
	for _, l := range orders(want) {
		checkOrder(t, l, want, nil)
	}
	// One that leans on several is Ready behind the last of them.
	want = []api.Op{op(1, 1, 3), op(2, 1, 4), op(3, 1, 5), op(4, 1, 1, 1, 1, 2, 1, 3, 1), op(4, 2, 2, 3, 1, 4, 1), op(5, 1, 6)}
	for _, l := range orders(want) {
		checkOrder(t, l, want, nil)
	}
}

// P8.2: what leans on what isn't there is left, and so is what leans on it, by ops.Less.
func TestOrderOfLeft(t *testing.T) {
	in := []api.Op{op(1, 1, 5), op(2, 1, 6)}
	left := []api.Op{op(6, 1, 1, 2, 2), op(3, 2, 2, 3, 1), op(4, 1, 2, 3, 1), op(1, 3, 9, 1, 2)}
	for _, l := range orders(slices.Concat(in, left)) {
		checkOrder(t, l, in, left)
	}
	// A gap in an actor's row: the second one lacks, and nothing behind it comes.
	a, c, d := op(1, 1, 3), op(1, 3, 1, 1, 2), op(1, 4, 2, 1, 3)
	for _, l := range orders([]api.Op{a, c, d}) {
		checkOrder(t, l, []api.Op{a}, []api.Op{c, d})
	}
	// Two that lean on each other.
	x, y := op(1, 1, 1, 2, 1), op(2, 1, 1, 1, 1)
	checkOrder(t, []api.Op{y, x, a}, nil, []api.Op{x, y})
	// The last actor and the last number, of which nothing is there.
	far := op(lastAct, lastSeq, api.MaxTime, lastAct, lastSeq-1)
	checkOrder(t, []api.Op{far, a}, []api.Op{a}, []api.Op{far})
}

// P8.2: as many as a document has, handed in the wrong way round.
func TestOrderOfMany(t *testing.T) {
	r := rand.New(rand.NewPCG(8, 2))
	var want []api.Op
	for i := range api.MaxOps {
		act, seq := i%7, i/7+1
		o := op(act, seq, i+1)
		for other := range 7 {
			if n := (i + 6 - other) / 7; n > 0 {
				o.Deps = append(o.Deps, dot(other, n))
			}
		}
		want = append(want, o)
	}
	back := slices.Clone(want)
	slices.Reverse(back)
	for _, l := range [][]api.Op{want, back, shuffled(r, want)} {
		if in, left := causal.Order(l); !sameRows(in, want) || len(left) != 0 {
			t.Errorf("%d and %d of %d", len(in), len(left), len(want))
		}
		if in, left := causal.Order(slices.DeleteFunc(slices.Clone(l), func(o api.Op) bool { return o.Time == 1000 })); !sameRows(in, want[:999]) || !sameRows(left, want[1000:]) {
			t.Errorf("without one: %d and %d of %d", len(in), len(left), len(want))
		}
		if !causal.Right(l) || !slices.Equal(causal.Frontier(l), []api.Dot{want[len(want)-1].Id}) {
			t.Errorf("Right or Frontier of many")
		}
	}
}

// P8.2: all that an operation has is told as it was, of each kind.
func TestOrderKeepsAll(t *testing.T) {
	l := []api.Op{
		op(1, 1, 1),
		{Id: dot(1, 2), Time: 2, Deps: vec(1, 1), Kind: api.Insert, Block: dot(1, 1), Side: api.Right, Char: 'a'},
		{Id: dot(1, 3), Time: 3, Deps: vec(1, 2), Kind: api.Insert, Block: dot(1, 1), At: dot(1, 2), Side: api.Left, Char: api.MaxChar},
		{Id: dot(2, 1), Time: 4, Deps: vec(1, 3), Kind: api.Delete, Block: dot(1, 1), At: dot(1, 3)},
		{Id: dot(3, 1), Time: 5, Deps: vec(1, 1), Kind: api.Move, Block: dot(1, 1), Parent: api.Trash(), Key: "bz"},
	}
	for _, o := range l {
		if !ops.Check(o) {
			t.Fatalf("%+v may not be", o)
		}
	}
	for _, row := range orders(l) {
		checkOrder(t, row, l, nil)
	}
	checkOrder(t, l[1:], nil, l[1:])
}
