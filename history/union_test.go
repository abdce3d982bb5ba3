package history_test

import (
	"math/rand/v2"
	"slices"
	"testing"

	"osier/api"
	"osier/history"
	"osier/ops"
	"osier/vector"
)

// slowUnion is a union by the chapter's words.
func slowUnion(a, b []api.Op) []api.Op {
	var out []api.Op
	for _, o := range slices.Concat(a, b) {
		if ops.Check(o) && !is(out, o.Id) {
			out = append(out, o)
		}
	}
	slices.SortFunc(out, byTime)
	return out
}

// checkUnion looks at Union: at what it is, and that it is new memory.
func checkUnion(t *testing.T, a, b []api.Op, want ...api.Op) {
	t.Helper()
	a, b = roomy(a), roomy(b)
	checkNew(t, "Union", func() []api.Op { return history.Union(a, b) }, want, a, b)
}

// P16.2: the operations of both, by their times, of all orders and however they are parted.
func TestUnion(t *testing.T) {
	l := some()[1:]
	slices.SortFunc(l, byTime)
	for _, o := range orders(l) {
		for n := range len(o) + 1 {
			checkUnion(t, o[:n], o[n:], l...)
		}
	}
	all := some()
	for n := range len(all) + 1 {
		checkUnion(t, all[:n], all, all...)
		checkUnion(t, all, all[n:], all...)
		checkUnion(t, all[:n], all[n:], all...)
		checkUnion(t, all[n:], all[:n], all...)
	}
}

// P16.2: by Time, and of one Time by Act, and of one actor by Seq: by nothing else, also where one leans on another one that comes behind it.
func TestUnionOrder(t *testing.T) {
	l := []api.Op{
		made(9, 1, 1), made(3, 1, 2, 4, 1), made(0, 1, 3), made(2, 1, 3), made(2, 2, 3, 2, 1), made(2, 3, 3, 2, 2), made(10, 1, 3), made(4, 1, 4), made(1, 1, api.MaxTime),
	}
	back := slices.Clone(l)
	slices.Reverse(back)
	for n := range len(l) + 1 {
		checkUnion(t, l[:n], l[n:], l...)
		checkUnion(t, back[:n], back[n:], l...)
	}
}

// P16.2: of nothing there is nothing, and of one and nothing the one.
func TestUnionOfNothing(t *testing.T) {
	for _, no := range [][]api.Op{nil, {}} {
		checkUnion(t, no, nil)
		checkUnion(t, no, []api.Op{})
		checkUnion(t, no, some(), some()...)
		checkUnion(t, some(), no, some()...)
		checkUnion(t, no, []api.Op{{}})
		checkUnion(t, []api.Op{{}}, no)
	}
}

// P16.2: what leans on what isn't there counts, too.
func TestUnionOfLeft(t *testing.T) {
	l := []api.Op{made(6, 1, 1, 2, 2), made(7, 1, 1, 8, 1), made(8, 1, 1, 7, 1), made(3, 2, 2, 3, 1), made(1, 1, 5), made(1, 3, 9, 1, 2)}
	for n := range len(l) + 1 {
		checkUnion(t, l[:n], l[n:], l...)
		checkUnion(t, l[n:], l[:n], l...)
	}
}

// P16.2: what may not be doesn't count, neither in one nor in the other.
func TestUnionOfWrong(t *testing.T) {
	first, second := made(1, 1, 1), made(1, 2, 2, 1, 1)
	for _, w := range wrongOf(second) {
		checkUnion(t, []api.Op{w}, []api.Op{w, w})
		checkUnion(t, []api.Op{w}, []api.Op{first}, first)
		checkUnion(t, []api.Op{first}, []api.Op{w}, first)
		checkUnion(t, []api.Op{w}, []api.Op{second, first}, first, second)
		checkUnion(t, []api.Op{second, w}, []api.Op{w, first}, first, second)
	}
}

// P16.2: of several with one Id the first one counts, of a's ahead of b's; one that may not be isn't the first.
func TestUnionOfOneId(t *testing.T) {
	a, b, c := made(1, 1, 5), keyed(made(1, 1, 2), "m"), keyed(made(1, 1, 9, 7, 1), "k")
	other := made(2, 1, 3)
	checkUnion(t, []api.Op{a}, []api.Op{b}, a)
	checkUnion(t, []api.Op{b}, []api.Op{a}, b)
	checkUnion(t, []api.Op{a, b}, nil, a)
	checkUnion(t, nil, []api.Op{b, a, c}, b)
	checkUnion(t, []api.Op{other, a}, []api.Op{b, c}, other, a)
	checkUnion(t, []api.Op{b, other}, []api.Op{a, other}, b, other)
	checkUnion(t, []api.Op{c}, []api.Op{other, b, a}, other, c)
	checkUnion(t, []api.Op{other}, []api.Op{c, b, a}, other, c)
	for _, w := range wrongOf(a) {
		checkUnion(t, []api.Op{w}, []api.Op{b, a}, b)
		checkUnion(t, []api.Op{w, a}, []api.Op{b}, a)
		checkUnion(t, []api.Op{a}, []api.Op{w, b}, a)
	}
}

// P16.2: any operations, wrong ones and twice there ones among them.
func TestUnionAtRandom(t *testing.T) {
	r := rand.New(rand.NewPCG(16, 2))
	twice := 0
	for range 2000 {
		a, b := opsOf(randomBytes(r, 4*r.IntN(40))), opsOf(randomBytes(r, 4*r.IntN(40)))
		want := slowUnion(a, b)
		checkUnion(t, a, b, want...)
		twice += len(slowUnion(a, nil)) + len(slowUnion(b, nil)) - len(want)
	}
	if twice < 1000 {
		t.Errorf("there were but %d in both", twice)
	}
}

// P16.2: as many as a document has.
func TestUnionOfMany(t *testing.T) {
	var l []api.Op
	for i := range api.MaxOps {
		l = append(l, made(i, 1, 1+i/3))
	}
	back := slices.Clone(l)
	slices.Reverse(back)
	if got := history.Union(back[:15000], back[5000:]); !same(got, l) {
		t.Errorf("of many: %d", len(got))
	}
}

// checkSaw looks at Saw: at what it is, and that it is new memory.
func checkSaw(t *testing.T, o api.Op, want api.Vector) {
	t.Helper()
	o.Deps = roomyDots(o.Deps)
	was := slices.Clone(o.Deps[:cap(o.Deps)])
	got, again := history.Saw(o), history.Saw(o)
	if !slices.Equal(got, want) {
		t.Errorf("Saw of %v, %v is %v, not %v", o.Id, o.Deps, got, want)
	}
	spoilDots(got)
	if !slices.Equal(o.Deps[:cap(o.Deps)], was) {
		t.Errorf("Saw of %v: what was handed in is changed", o.Id)
	}
	spoilDots(o.Deps)
	if !slices.Equal(again, want) {
		t.Errorf("Saw of %v: what is answered shares memory", o.Id)
	}
}

// P16.2: Saw is Deps, with Id.
func TestSaw(t *testing.T) {
	checkSaw(t, made(1, 1, 1), vec(1, 1))
	checkSaw(t, made(1, 2, 1, 1, 1), vec(1, 2))
	checkSaw(t, made(2, 1, 1, 1, 3, 4, 7), vec(1, 3, 2, 1, 4, 7))
	checkSaw(t, made(0, 1, 1, 1, 3), vec(0, 1, 1, 3))
	checkSaw(t, made(9, 5, 1, 1, 3, 9, 4), vec(1, 3, 9, 5))
	checkSaw(t, put(1, 2, 1, dot(1, 1), none, 'x', 1, 1, 2, 2), vec(1, 2, 2, 2))
	checkSaw(t, taken(1, 3, 1, dot(1, 1), dot(1, 2), 0, 1, 1, 2), vec(0, 1, 1, 3))
	checkSaw(t, made(api.MaxActor-1, api.MaxSeq, 1, api.MaxActor-1, api.MaxSeq-1), vec(api.MaxActor-1, api.MaxSeq))
	// Of operations that may not be, too: all with Id of what Deps have, or these alone where it may not be.
	checkSaw(t, made(1, 5, 0, 1, 2), vec(1, 5))
	checkSaw(t, made(1, 2, 0, 1, 5, 2, 1), vec(1, 5, 2, 1))
	checkSaw(t, api.Op{}, nil)
	for _, d := range []api.Dot{none, root, trash, dot(-1, 1), dot(1, 0), dot(api.MaxActor, 1), dot(1, api.MaxSeq+1)} {
		checkSaw(t, api.Op{Id: d, Deps: vec(1, 2, 3, 4)}, vec(1, 2, 3, 4))
	}
	r := rand.New(rand.NewPCG(16, 3))
	for _, o := range opsOf(randomBytes(r, 4000)) {
		if vector.May(o.Deps) {
			checkSaw(t, o, vector.With(o.Deps, o.Id))
		}
	}
	for _, v := range noVectors() {
		history.Saw(api.Op{Id: dot(1, 1), Deps: v})
	}
}
