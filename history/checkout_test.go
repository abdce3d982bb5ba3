package history_test

import (
	"math"
	"math/rand/v2"
	"reflect"
	"slices"
	"testing"

	"osier/api"
	"osier/causal"
	"osier/history"
	"osier/vector"
	"osier/view"
)

// slowCheckout is a checkout by the chapter's words.
func slowCheckout(l []api.Op, v api.Vector) ([]api.Op, api.Errno) {
	in, _ := causal.Order(l)
	had := slices.DeleteFunc(in, func(o api.Op) bool { return !has(v, o.Id) })
	lacks := func(d api.Dot) bool { return !is(had, d) }
	leans := func(o api.Op) bool {
		return slices.ContainsFunc(o.Deps, func(d api.Dot) bool { return !has(v, d) })
	}
	if !vector.May(v) || slices.ContainsFunc(v, lacks) || slices.ContainsFunc(had, leans) {
		return nil, api.ErrPast
	}
	return had, api.OK
}

// checkCheckout looks at Checkout and At of a version that there is: at what they are, and that it is new memory.
func checkCheckout(t *testing.T, l []api.Op, v api.Vector, want ...api.Op) {
	t.Helper()
	l, v = roomy(l), roomyDots(v)
	was := slices.Clone(v[:cap(v)])
	ask := func() []api.Op {
		t.Helper()
		got, e := history.Checkout(l, v)
		if e != api.OK {
			t.Fatalf("Checkout of %v, %v: error %d", ids(l), v, e)
		}
		return got
	}
	s, e := history.At(l, v)
	if e != api.OK {
		t.Fatalf("At of %v, %v: error %d", ids(l), v, e)
	}
	all := copied(l)[:len(l)]
	checkNew(t, "Checkout", ask, want, l)
	checkState(t, "At", s, view.Of(want), all)
	if !slices.Equal(v[:cap(v)], was) {
		t.Fatalf("the version that was handed in is changed: %v", v[:cap(v)])
	}
}

// checkPast looks at Checkout and At of a version that there isn't.
func checkPast(t *testing.T, l []api.Op, v api.Vector) {
	t.Helper()
	l, v = roomy(l), roomyDots(v)
	wasOps, wasDots := copied(l), slices.Clone(v[:cap(v)])
	if got, e := history.Checkout(l, v); e != api.ErrPast || len(got) != 0 {
		t.Fatalf("Checkout of %v, %v is %v, %d, not ErrPast", ids(l), v, ids(got), e)
	}
	if s, e := history.At(l, v); e != api.ErrPast || s != nil {
		t.Fatalf("At of %v, %v is %v, %d, not ErrPast", ids(l), v, s, e)
	}
	if !reflect.DeepEqual(whole(l), wasOps) || !slices.Equal(v[:cap(v)], wasDots) {
		t.Fatalf("what was handed in is changed")
	}
}

// some are operations of three actors that know of some of one another's.
func some() []api.Op {
	return []api.Op{
		made(1, 1, 1), made(2, 1, 1), put(1, 2, 2, dot(1, 1), none, 'x', 1, 1), moved(2, 2, 2, dot(1, 1), dot(2, 1), 1, 1, 2, 1),
		moved(1, 3, 3, dot(1, 1), trash, 1, 2, 2, 1), put(3, 1, 4, dot(1, 1), dot(1, 2), 'y', 1, 2, 2, 2),
	}
}

// P16.1: what a version has, of every order in which the operations are handed in.
func TestCheckout(t *testing.T) {
	l := some()
	for _, o := range orders(l) {
		checkCheckout(t, o, vec(1, 1), l[0])
		checkCheckout(t, o, vec(2, 1), l[1])
		checkCheckout(t, o, vec(1, 2), l[0], l[2])
		checkCheckout(t, o, vec(1, 1, 2, 2), l[0], l[1], l[3])
		checkCheckout(t, o, vec(1, 2, 2, 2, 3, 1), l[0], l[1], l[2], l[3], l[5])
	}
	checkCheckout(t, l, vec(1, 1, 2, 1), l[0], l[1])
	checkCheckout(t, l, vec(1, 3, 2, 1), l[0], l[1], l[2], l[4])
	checkCheckout(t, l, vec(1, 3, 2, 2), l[:5]...)
	checkCheckout(t, l, vec(1, 3, 2, 2, 3, 1), l...)
}

// P16.1: all that an operation has is told as it was, of each kind.
func TestCheckoutKeepsAll(t *testing.T) {
	l := []api.Op{
		made(1, 1, 1), put(1, 2, 2, dot(1, 1), none, 'x', 1, 1), put(1, 3, 3, dot(1, 1), dot(1, 2), api.MaxChar, 1, 2),
		taken(1, 4, 4, dot(1, 1), dot(1, 2), 1, 3), keyed(moved(1, 5, api.MaxTime, dot(1, 1), trash, 1, 4), "bz"),
	}
	l[2].Side = api.Left
	for n := range l {
		checkCheckout(t, l, vec(1, n+1), l[:n+1]...)
	}
}

// P16.1: the order is that in which they are taken in, not that of their Times, where Times say otherwise.
func TestCheckoutOrder(t *testing.T) {
	l := []api.Op{made(2, 1, 4), made(5, 1, 1, 2, 1), made(0, 1, 2, 5, 1), made(3, 1, 5), made(2, 2, 3, 2, 1, 3, 1)}
	for _, o := range orders(l) {
		checkCheckout(t, o, vec(0, 1, 2, 2, 3, 1, 5, 1), l...)
		checkCheckout(t, o, vec(2, 1, 3, 1, 5, 1), l[0], l[1], l[3])
		checkCheckout(t, o, vec(2, 2, 3, 1), l[0], l[3], l[4])
	}
}

// P16.1: the empty version has nothing, whatever there is.
func TestCheckoutOfEmpty(t *testing.T) {
	for _, l := range [][]api.Op{nil, {}, some(), some()[2:3], {{}}, wrongOf(made(1, 1, 1))} {
		checkCheckout(t, l, nil)
		checkCheckout(t, l, api.Vector{})
	}
}

// P16.1: ErrPast, unless v may be, though what it tells of is there.
func TestNoVersion(t *testing.T) {
	l := append(some(), made(0, 1, 1), made(api.MaxActor-1, 1, 1))
	for _, v := range noVectors() {
		checkPast(t, l, v)
		checkPast(t, nil, v)
	}
	checkCheckout(t, l, vec(0, 1, api.MaxActor-1, 1), l[6], l[7])
}

// P16.1: ErrPast, where a dot of v is the Id of none that is taken in.
func TestLacks(t *testing.T) {
	l := some()
	for _, v := range []api.Vector{
		vec(1, 4), vec(1, 4, 2, 2), vec(1, 3, 2, 3), vec(0, 1), vec(4, 1), vec(0, 1, 1, 1), vec(1, 1, 4, 1), vec(1, 2, 2, 2, 3, 1, 4, 1),
		vec(1, api.MaxSeq), vec(1, 3, 2, 2, 3, 2), vec(api.MaxActor-1, api.MaxSeq),
	} {
		checkPast(t, l, v)
	}
	for _, v := range []api.Vector{vec(1, 1), vec(0, 1), vec(api.MaxActor-1, api.MaxSeq)} {
		checkPast(t, nil, v)
		checkPast(t, []api.Op{{}}, v)
	}
	// Others are had, one isn't there: what is ahead of it, or of what leans on it, can still be had.
	checkPast(t, slices.Delete(some(), 0, 1), vec(1, 1))
	checkPast(t, slices.Delete(some(), 0, 1), vec(1, 2, 2, 1))
	checkCheckout(t, slices.Delete(some(), 0, 1), vec(2, 1), l[1])
	checkPast(t, slices.Delete(some(), 2, 3), vec(1, 3, 2, 1))
	checkPast(t, slices.Delete(some(), 2, 3), vec(1, 1, 2, 2, 3, 1))
	checkCheckout(t, slices.Delete(some(), 2, 3), vec(1, 1, 2, 2), l[0], l[1], l[3])
}

// P16.1: ErrPast, where v isn't above the Deps of one that it has.
func TestNotAbove(t *testing.T) {
	l := some()
	for _, v := range []api.Vector{vec(2, 2), vec(1, 3), vec(1, 3, 3, 1), vec(3, 1), vec(1, 2, 3, 1), vec(1, 1, 2, 2, 3, 1), vec(1, 2, 2, 1, 3, 1), vec(2, 2, 3, 1)} {
		checkPast(t, l, v)
	}
	// It may be another one than the last one of its actor on whose Deps it fails: what leans on one needn't lean on all on which that one leans.
	l = []api.Op{made(1, 1, 1), made(1, 2, 2, 1, 1), made(2, 1, 3, 1, 2), made(2, 2, 4, 2, 1), made(2, 3, 5, 1, 1, 2, 2), made(3, 1, 6, 2, 3)}
	for _, v := range []api.Vector{vec(2, 1), vec(2, 2), vec(1, 1, 2, 3), vec(2, 3, 3, 1), vec(1, 1, 2, 3, 3, 1), vec(3, 1), vec(1, 2, 3, 1)} {
		checkPast(t, l, v)
	}
	checkCheckout(t, l, vec(1, 2, 2, 2), l[:4]...)
	checkCheckout(t, l, vec(1, 2, 2, 3, 3, 1), l...)
}

// P16.1: an operation that is there twice is told once; of two with one Id the first one that may be.
func TestCheckoutOfTwice(t *testing.T) {
	l := some()
	checkCheckout(t, slices.Concat(l, l), vec(1, 2), l[0], l[2])
	checkCheckout(t, slices.Concat(l[2:], l, l), vec(1, 3, 2, 2, 3, 1), l...)
	first, other := made(1, 1, 5), keyed(made(1, 1, 1), "m")
	checkCheckout(t, []api.Op{first, other}, vec(1, 1), first)
	checkCheckout(t, []api.Op{other, first}, vec(1, 1), other)
	stuck := keyed(made(1, 1, 9, 7, 1), "k")
	checkPast(t, []api.Op{stuck, first}, vec(1, 1))
	checkCheckout(t, []api.Op{first, stuck}, vec(1, 1), first)
	// The Deps that count are those of the one that counts.
	leans, free := made(2, 1, 2, 1, 1), keyed(made(2, 1, 2), "m")
	checkPast(t, []api.Op{first, leans, free}, vec(2, 1))
	checkCheckout(t, []api.Op{first, free, leans}, vec(2, 1), free)
}

// P16.1: what may not be isn't there.
func TestCheckoutOfWrong(t *testing.T) {
	first, second := made(1, 1, 1), made(1, 2, 2, 1, 1)
	for _, w := range wrongOf(first) {
		checkPast(t, []api.Op{w}, vec(1, 1))
		checkPast(t, []api.Op{w, second}, vec(1, 2))
		checkCheckout(t, []api.Op{w, first, w, second}, vec(1, 1), first)
		checkCheckout(t, []api.Op{w, first, w, second}, vec(1, 2), first, second)
	}
	for _, w := range wrongOf(second) {
		checkPast(t, []api.Op{first, w}, vec(1, 2))
		checkCheckout(t, []api.Op{w, first}, vec(1, 1), first)
	}
}

// P16.1: what leans on what isn't there isn't taken in, and can't be had; all else can.
func TestCheckoutOfLeft(t *testing.T) {
	in := []api.Op{made(1, 1, 5), made(2, 1, 6)}
	left := []api.Op{made(6, 1, 1, 2, 2), made(3, 2, 2, 3, 1), made(4, 1, 2, 3, 1), made(1, 3, 9, 1, 2), made(7, 1, 1, 8, 1), made(8, 1, 1, 7, 1)}
	for _, l := range [][]api.Op{slices.Concat(in, left), slices.Concat(left, in)} {
		checkCheckout(t, l, vec(1, 1, 2, 1), in...)
		checkCheckout(t, l, vec(2, 1), in[1])
		for _, v := range []api.Vector{vec(6, 1), vec(2, 1, 6, 1), vec(2, 2, 6, 1), vec(3, 1), vec(3, 2), vec(3, 1, 4, 1), vec(4, 1), vec(1, 2), vec(1, 3), vec(7, 1, 8, 1), vec(1, 1, 2, 1, 7, 1, 8, 1)} {
			checkPast(t, l, v)
		}
	}
}

// P16.1: as many as a document has, at versions near the first, in between and the last.
func TestCheckoutOfMany(t *testing.T) {
	var l []api.Op
	for i := range api.MaxOps {
		o := made(i%7, i/7+1, i+1)
		for other := range 7 {
			if n := (i + 6 - other) / 7; n > 0 {
				o.Deps = append(o.Deps, dot(other, n))
			}
		}
		l = append(l, o)
	}
	back := slices.Clone(l)
	slices.Reverse(back)
	for _, n := range []int{0, 1, 9999, api.MaxOps - 1, api.MaxOps} {
		if got, e := history.Checkout(back, causal.Version(l[:n])); e != api.OK || !same(got, l[:n]) {
			t.Errorf("of %d: %d, error %d", n, len(got), e)
		}
	}
	if got, e := history.Checkout(l, vector.With(causal.Version(l), dot(9, 1))); e != api.ErrPast || len(got) != 0 {
		t.Errorf("of more than all: %d, error %d", len(got), e)
	}
}

// near are versions near some operations: what some of them saw, put together, and with something changed.
func near(r *rand.Rand, l []api.Op) api.Vector {
	var v api.Vector
	for range r.IntN(3) {
		if len(l) > 0 {
			v = vector.Join(v, history.Saw(l[r.IntN(len(l))]))
		}
	}
	switch n := r.IntN(4); {
	case n == 0 && len(v) > 0:
		v[r.IntN(len(v))].Seq += r.IntN(5) - 2
	case n == 1 && len(v) > 0:
		v = slices.Delete(v, len(v)-1, len(v))
	}
	return v
}

// checkAny holds Checkout and At against the chapter's words; whether there is such a version is the answer.
func checkAny(t *testing.T, l []api.Op, v api.Vector) bool {
	t.Helper()
	want, e := slowCheckout(l, v)
	if e == api.OK {
		checkCheckout(t, l, v, want...)
		return true
	}
	checkPast(t, l, v)
	return false
}

// P16.1: any operations, wrong ones and twice there ones among them, at versions of all kinds.
func TestCheckoutAtRandom(t *testing.T) {
	r := rand.New(rand.NewPCG(16, 1))
	there, past := 0, 0
	for range 1000 {
		l := slices.Concat(grown(r, r.IntN(40)), opsOf(randomBytes(r, 4*r.IntN(20))))
		if r.IntN(2) == 0 {
			l = spoiled(r, l)
		}
		in, _ := causal.Order(l)
		for _, from := range [][]api.Op{l, in, in, in} {
			v := near(r, from)
			switch {
			case !checkAny(t, l, v):
				past++
			case len(v) > 1:
				there++
			}
		}
	}
	if there < 500 || past < 500 {
		t.Errorf("there were but %d versions, and %d that aren't", there, past)
	}
}

// P16.1: whatever is handed in, there is an answer.
func TestCheckoutOfWhatever(t *testing.T) {
	far := []int{math.MinInt, -1, 0, 1, api.MaxSeq, math.MaxInt}
	var l []api.Op
	for _, act := range far {
		for _, seq := range far {
			l = append(l, made(act, seq, 1), made(act, seq, seq, act, seq), api.Op{Id: dot(act, seq), Time: act, Deps: vec(seq, act, act, seq), Kind: seq, Block: dot(seq, act), At: dot(act, act), Side: seq, Char: act, Parent: dot(seq, seq)})
		}
	}
	for _, act := range far {
		for _, seq := range far {
			if act != 0 && act != 1 || seq != 1 {
				checkPast(t, l, vec(act, seq))
			}
		}
	}
	checkCheckout(t, l, vec(1, 1), made(1, 1, 1))
	checkCheckout(t, l, vec(0, 1), made(0, 1, 1))
}
