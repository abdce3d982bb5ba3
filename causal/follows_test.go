package causal_test

import (
	"math"
	"math/rand/v2"
	"slices"
	"testing"

	"osier/api"
	"osier/causal"
	"osier/dots"
	"osier/ops"
	"osier/vector"
)

// once are the operations of a row, of each Id the first one, whether it may be or not.
func once(l []api.Op) []api.Op {
	var out []api.Op
	for _, o := range l {
		if !slices.ContainsFunc(out, func(p api.Op) bool { return p.Id == o.Id }) {
			out = append(out, o)
		}
	}
	return out
}

// P8.5: where no Id is there twice, what is taken in, and what is left, is the same for every order.
func TestEveryOrder(t *testing.T) {
	for _, l := range [][]api.Op{
		{op(1, 1, 5), op(2, 1, 3), op(1, 2, 6, 1, 1), op(3, 1, 1, 1, 1), op(3, 2, 6, 1, 2, 2, 1, 3, 1), op(2, 3, 2, 2, 2)},
		{op(1, 1, 1), op(1, 2, 1, 1, 1), op(2, 1, 1), op(2, 2, 1, 1, 1, 2, 1), op(3, 1, 1, 2, 2), op(4, 1, 0, 1, 1)},
		{op(1, 1, 9, 2, 1), op(2, 1, 9, 1, 1), op(3, 1, 5), op(4, 1, 4, 3, 1), op(5, 1, 3, 4, 1), op(6, 1, 2)},
	} {
		in, left := causal.Order(l)
		for _, row := range orders(l) {
			checkOrder(t, row, in, left)
		}
	}
	r := rand.New(rand.NewPCG(8, 4))
	for range 500 {
		l := once(opsOf(randomBytes(r, 4*r.IntN(40))))
		in, left := causal.Order(l)
		for range 5 {
			gotIn, gotLeft := causal.Order(shuffled(r, l))
			if !sameRows(gotIn, in) || !sameRows(gotLeft, left) {
				t.Fatalf("Order of %s in another order: %s and %s, not %s and %s", told(l), told(gotIn), told(gotLeft), told(in), told(left))
			}
		}
	}
}

// P8.5: each operation comes behind all that its Deps have, each of which is there.
func TestBehindDeps(t *testing.T) {
	r := rand.New(rand.NewPCG(8, 5))
	many := 0
	for range 500 {
		l := slices.Concat(
			shuffled(r, grown(r, 40, func(deps int) int { return 1 + r.IntN(9) })),
			opsOf(randomBytes(r, 4*r.IntN(20))))
		in, left := causal.Order(l)
		var ids []api.Dot
		for _, o := range in {
			if lack := dots.Minus(vector.Missing(o.Deps, nil, math.MaxInt), ids); len(lack) > 0 {
				t.Fatalf("%v comes ahead of %v in %s", o.Id, lack, told(in))
			}
			ids = append(ids, o.Id)
		}
		// What is left leans on something that isn't there.
		for _, o := range left {
			if len(dots.Minus(o.Deps, ids)) == 0 || slices.Contains(ids, o.Id) {
				t.Fatalf("%v is left of %s", o.Id, told(l))
			}
		}
		many += len(in)
	}
	if many < 500*40 {
		t.Errorf("only %d were taken in", many)
	}
}

// P8.5: of Right ones the order is that by ops.Less, and what is taken in is all of it.
func TestOrderOfRight(t *testing.T) {
	r := rand.New(rand.NewPCG(8, 6))
	for range 500 {
		l := grown(r, r.IntN(60), func(deps int) int { return deps + 1 + r.IntN(3) })
		want := slices.Clone(l)
		slices.SortFunc(want, func(a, b api.Op) int {
			if ops.Less(a, b) {
				return -1
			}
			return 1
		})
		if !causal.Right(l) {
			t.Fatalf("%+v isn't right", l)
		}
		checkOrder(t, shuffled(r, l), want, nil)
	}
}

// P8.5: what is taken in is Ready, one by one, for the Version of those ahead of it, which is the vector.
func TestReadyOneByOne(t *testing.T) {
	r := rand.New(rand.NewPCG(8, 7))
	for range 300 {
		l := slices.Concat(
			shuffled(r, grown(r, 20, func(deps int) int { return 1 + r.IntN(9) })),
			opsOf(randomBytes(r, 4*r.IntN(20))))
		in, left := causal.Order(l)
		for i, o := range in {
			have := causal.Version(in[:i])
			if e := causal.Ready(have, o); e != api.OK {
				t.Fatalf("%v of %s with %v: %d", o.Id, told(in), have, e)
			}
			for _, later := range in[i+1:] {
				if causal.Ready(have, later) == api.OK && ops.Less(later, o) {
					t.Fatalf("%v is taken in, though %v is Ready and less: %s", o.Id, later.Id, told(in))
				}
			}
		}
		for _, o := range left {
			if e := causal.Ready(causal.Version(in), o); e != api.ErrEarly {
				t.Fatalf("%v is left of %s: %d", o.Id, told(l), e)
			}
		}
	}
}
