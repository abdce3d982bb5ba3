package ops_test

import (
	"math"
	"slices"
	"strings"

	"osier/api"
	"osier/num"
	"osier/ops"
)

// The calls, with just the signatures that the chapter lists.
var (
	_ func(api.Op) bool              = ops.Check
	_ func(api.Op, api.Op) bool      = ops.Less
	_ func(api.Op, api.Op) bool      = ops.Same
	_ func([]byte, api.Op) []byte    = ops.Put
	_ func(r *num.Reader) (o api.Op) = ops.Take
)

const (
	lastAct = api.MaxActor - 1
	lastSeq = api.MaxSeq
)

// dot is the dot act.seq.
func dot(act, seq int) api.Dot { return api.Dot{Act: act, Seq: seq} }

// vec is a vector of Acts and Seqs, by turns.
func vec(n ...int) api.Vector {
	var v api.Vector
	for i := 0; i+1 < len(n); i += 2 {
		v = append(v, dot(n[i], n[i+1]))
	}
	return v
}

// insert, remove, move and create are the operation 3.5 of each kind, the last one a Move that makes its block.
func insert() api.Op {
	return api.Op{Id: dot(3, 5), Time: 10, Deps: vec(1, 2, 3, 4, 7, 9), Kind: api.Insert, Block: dot(1, 2), At: dot(3, 1), Side: api.Left, Char: 'x'}
}

func remove() api.Op {
	return api.Op{Id: dot(3, 5), Time: 10, Deps: vec(1, 2, 3, 4, 7, 9), Kind: api.Delete, Block: dot(1, 2), At: dot(7, 9)}
}

func move() api.Op {
	return api.Op{Id: dot(3, 5), Time: 10, Deps: vec(1, 2, 3, 4, 7, 9), Kind: api.Move, Block: dot(1, 2), Parent: dot(7, 3), Key: "bn"}
}

func create() api.Op {
	return api.Op{Id: dot(3, 5), Time: 10, Deps: vec(1, 2, 3, 4, 7, 9), Kind: api.Move, Block: dot(3, 5), Parent: api.Root(), Key: "n"}
}

// kinds are one operation of each kind, and one that makes its block.
func kinds() []api.Op { return []api.Op{insert(), remove(), move(), create()} }

// with is an operation changed.
func with(o api.Op, change func(o *api.Op)) api.Op {
	o.Deps = slices.Clone(o.Deps)
	change(&o)
	return o
}

// each are the operations, changed in the same way.
func each(l []api.Op, change func(o *api.Op)) []api.Op {
	var out []api.Op
	for _, o := range l {
		out = append(out, with(o, change))
	}
	return out
}

// right are operations that may be, each one once: of all kinds, and at the bounds of all that they have.
func right() []api.Op {
	l := kinds()
	for _, time := range []int{1, 2, 9, 11, 63, 64, 1 << 32, api.MaxTime - 1, api.MaxTime} {
		l = append(l, each(kinds(), func(o *api.Op) { o.Time = time })...)
	}
	for _, deps := range []api.Vector{vec(1, 2, 3, 4, 7, 10), vec(0, 1, 1, 2, 3, 4, 7, 9), vec(1, 3, 3, 4, 7, 9), vec(1, 2, 3, 4, 7, 9, lastAct, lastSeq)} {
		l = append(l, each(kinds(), func(o *api.Op) { o.Deps = deps })...)
	}
	return slices.Concat(l, rightHeads(), rightInserts(), rightRemoves(), rightMoves())
}

// rightHeads are operations at the bounds of an Id, with Deps that have none, or all ahead of it.
func rightHeads() []api.Op {
	l := []api.Op{
		{Id: dot(1, 1), Time: 1, Kind: api.Move, Block: dot(1, 1), Parent: api.Root(), Key: "n"},
		{Id: dot(0, 1), Time: 1, Kind: api.Move, Block: dot(0, 1), Parent: api.Trash(), Key: "b"},
		{Id: dot(lastAct, 1), Time: 1, Kind: api.Move, Block: dot(lastAct, 1), Parent: api.Root(), Key: "z"},
		{Id: dot(0, 1), Time: 2, Deps: vec(5, 1), Kind: api.Insert, Block: dot(5, 1), Side: api.Right},
		{Id: dot(9, 1), Time: 2, Deps: vec(5, 1), Kind: api.Delete, Block: dot(5, 1), At: dot(5, 1)},
	}
	for _, act := range []int{0, 1, 63, 64, lastAct} {
		for _, seq := range []int{2, 64, 65, lastSeq} {
			o := api.Op{Id: dot(act, seq), Time: 3, Deps: vec(act, seq-1)}
			l = append(l,
				with(o, func(o *api.Op) { o.Kind, o.Block, o.Side = api.Insert, dot(act, seq-1), api.Right }),
				with(o, func(o *api.Op) { o.Kind, o.Block, o.At = api.Delete, dot(act, 1), dot(act, seq-1) }),
				with(o, func(o *api.Op) { o.Kind, o.Block, o.Parent, o.Key = api.Move, o.Id, dot(act, seq-1), "n" }))
		}
	}
	return l
}

func rightInserts() []api.Op {
	var l []api.Op
	for _, c := range []int{0, 1, 'a', 63, 64, 8191, 8192, 55295, 57344, 65535, 65536, api.MaxChar - 1, api.MaxChar} {
		l = append(l, with(insert(), func(o *api.Op) { o.Char = c }))
	}
	for _, block := range []api.Dot{dot(1, 1), dot(3, 1), dot(3, 4), dot(7, 1), dot(7, 9)} {
		l = append(l, with(insert(), func(o *api.Op) { o.Block = block }))
	}
	for _, at := range []api.Dot{dot(1, 1), dot(1, 2), dot(3, 4), dot(7, 9)} {
		for _, side := range []int{api.Left, api.Right} {
			l = append(l, with(insert(), func(o *api.Op) { o.At, o.Side = at, side }))
		}
	}
	return append(l,
		with(insert(), func(o *api.Op) { o.Side = api.Right }),
		with(insert(), func(o *api.Op) { o.At, o.Side = api.Dot{}, api.Right }))
}

func rightRemoves() []api.Op {
	var l []api.Op
	for _, d := range []api.Dot{dot(1, 1), dot(3, 1), dot(3, 4), dot(7, 1)} {
		l = append(l,
			with(remove(), func(o *api.Op) { o.Block = d }),
			with(remove(), func(o *api.Op) { o.At = d }),
			with(remove(), func(o *api.Op) { o.Block, o.At = d, d }))
	}
	return l
}

func rightMoves() []api.Op {
	var l []api.Op
	for _, key := range []string{"b", "z", "ab", "nn", strings.Repeat("a", 199) + "b", strings.Repeat("z", 63), strings.Repeat("z", 64), strings.Repeat("z", 200)} {
		l = append(l, with(move(), func(o *api.Op) { o.Key = key }), with(create(), func(o *api.Op) { o.Key = key }))
	}
	for _, parent := range []api.Dot{api.Root(), api.Trash(), dot(1, 1), dot(3, 1), dot(3, 4), dot(7, 9)} {
		l = append(l, with(move(), func(o *api.Op) { o.Parent = parent }))
	}
	for _, parent := range []api.Dot{api.Trash(), dot(1, 1), dot(1, 2), dot(3, 4), dot(7, 9)} {
		l = append(l, with(create(), func(o *api.Op) { o.Parent = parent }))
	}
	for _, block := range []api.Dot{dot(1, 1), dot(3, 4), dot(7, 1), dot(7, 2), dot(7, 4), dot(7, 9)} {
		l = append(l, with(move(), func(o *api.Op) { o.Block = block }))
	}
	return l
}

// noDots are dots that may not be, and that are neither Root nor Trash.
func noDots() []api.Dot {
	return []api.Dot{
		{}, dot(1, 0), dot(-1, 1), dot(1, -1), dot(-1, -1), dot(0, -3), dot(-1, -2), dot(3, -2), dot(api.MaxActor, 1), dot(1, lastSeq+1),
		dot(math.MinInt, 1), dot(math.MaxInt, 1), dot(1, math.MinInt), dot(1, math.MaxInt), dot(1<<32+1, 1), dot(1, 1<<32+1), dot(math.MinInt, math.MinInt),
	}
}

// lacking are dots that the Deps of 3.5 haven't: such that might be, its own and one behind it among them, and such that might not.
func lacking() []api.Dot {
	return append(noDots(), dot(0, 1), dot(1, 3), dot(2, 1), dot(3, 5), dot(3, 6), dot(4, 1), dot(7, 10), dot(8, 1), dot(lastAct, lastSeq))
}

// noKeys are texts that are no keys.
func noKeys() []string {
	return []string{"", "a", "ba", "B", "bB", "b b", "b\x00", "1", "é", "\xff", strings.Repeat("b", 201), strings.Repeat("b", 1<<16)}
}

// wrongDeps are rows that are no vectors, though each has 3.4 alone of 3.
func wrongDeps() []api.Vector {
	return []api.Vector{
		vec(3, 4, 1, 2), vec(1, 2, 1, 2, 3, 4), vec(1, 1, 1, 2, 3, 4), vec(1, 2, 3, 4, 3, 4), vec(1, 2, 3, 4, 7, 9, 7, 9), vec(1, 2, 3, 4, 7, 9, 6, 1),
		vec(1, 2, 3, 4, 7, 0), vec(1, 0, 3, 4, 7, 9), vec(-1, 1, 1, 2, 3, 4, 7, 9), vec(1, 2, 3, 4, 7, 9, api.MaxActor, 1), vec(1, 2, 3, 4, 7, lastSeq+1),
		{api.Root(), dot(1, 2), dot(3, 4), dot(7, 9)}, {{}, dot(1, 2), dot(3, 4), dot(7, 9)},
	}
}

// wrongHeads are operations whose Id, Time or Deps aren't right, all else as it may be; their Deps are vectors.
func wrongHeads() []api.Op {
	var l []api.Op
	for _, time := range []int{0, -1, -10, math.MinInt, api.MaxTime + 1, 1 << 41, 1<<40 + 10, math.MaxInt} {
		l = append(l, each(kinds(), func(o *api.Op) { o.Time = time })...)
	}
	for _, d := range noDots() {
		l = append(l, each(kinds(), func(o *api.Op) { o.Id = d })...)
		l = append(l, with(create(), func(o *api.Op) { o.Id, o.Block = d, d }))
	}
	// None of these is the one behind what Deps have of its actor.
	for _, d := range []api.Dot{dot(3, 4), dot(3, 6), dot(3, 1), dot(2, 5), dot(4, 2), dot(1, 2), dot(1, 4), dot(7, 9), dot(7, 11), dot(0, 2)} {
		l = append(l, each([]api.Op{insert(), remove(), move()}, func(o *api.Op) { o.Id = d })...)
		l = append(l, with(create(), func(o *api.Op) { o.Id, o.Block = d, d }))
	}
	for _, deps := range []api.Vector{vec(1, 2, 3, 3, 7, 9), vec(1, 2, 3, 5, 7, 9), vec(1, 2, 7, 9), vec(1, 2, 3, lastSeq, 7, 9), vec(1, 2, 4, 4, 7, 9)} {
		// 1.1 is had, so that nothing but the Id's own actor is amiss.
		l = append(l, each(kinds(), func(o *api.Op) {
			o.Deps = deps
			if o.Kind == api.Insert {
				o.At = dot(1, 1)
			}
		})...)
	}
	first := api.Op{Id: dot(1, 2), Time: 1, Kind: api.Move, Block: dot(1, 2), Parent: api.Root(), Key: "n"}
	return append(l, first, with(first, func(o *api.Op) { o.Id, o.Block, o.Deps = dot(1, 1), dot(1, 1), vec(1, 1) }))
}

// wrongParts are operations of which what they have by their kind isn't right, in one place each.
func wrongParts() []api.Op {
	var l []api.Op
	for _, d := range lacking() {
		l = append(l,
			with(insert(), func(o *api.Op) { o.Block = d }),
			with(remove(), func(o *api.Op) { o.Block = d }),
			with(remove(), func(o *api.Op) { o.At = d }),
			with(move(), func(o *api.Op) { o.Parent = d }),
			with(create(), func(o *api.Op) { o.Parent = d }))
		if d != (api.Dot{}) {
			l = append(l, with(insert(), func(o *api.Op) { o.At = d }), with(insert(), func(o *api.Op) { o.At, o.Side = d, api.Right }))
		}
		if d != insert().Id {
			l = append(l, with(move(), func(o *api.Op) { o.Block = d }))
		}
	}
	for _, d := range []api.Dot{api.Root(), api.Trash()} {
		l = append(l,
			with(insert(), func(o *api.Op) { o.Block = d }),
			with(insert(), func(o *api.Op) { o.At, o.Side = d, api.Right }),
			with(remove(), func(o *api.Op) { o.Block = d }),
			with(remove(), func(o *api.Op) { o.At = d }),
			with(move(), func(o *api.Op) { o.Block = d }),
			with(move(), func(o *api.Op) { o.Block, o.Parent = d, d }))
	}
	for _, d := range []api.Dot{dot(1, 1), dot(1, 2), dot(3, 4), dot(3, 5), dot(7, 9)} {
		l = append(l, with(move(), func(o *api.Op) { o.Block, o.Parent = d, d }))
	}
	for _, key := range noKeys() {
		l = append(l, with(move(), func(o *api.Op) { o.Key = key }), with(create(), func(o *api.Op) { o.Key = key }))
	}
	return append(l, wrongChars()...)
}

// wrongChars are Inserts whose Side or Char isn't right.
func wrongChars() []api.Op {
	l := []api.Op{with(insert(), func(o *api.Op) { o.At, o.Side = api.Dot{}, api.Left })}
	for _, side := range []int{-1, 2, 3, math.MinInt, math.MaxInt, 1 << 32, 1<<32 + 1} {
		l = append(l,
			with(insert(), func(o *api.Op) { o.Side = side }),
			with(insert(), func(o *api.Op) { o.At, o.Side = api.Dot{}, side }))
	}
	for _, c := range []int{-1, -2, math.MinInt, 55296, 55297, 56319, 56320, 57342, 57343, api.MaxChar + 1, 1 << 21, 1<<32 + 'x', math.MaxInt} {
		l = append(l, with(insert(), func(o *api.Op) { o.Char = c }))
	}
	return l
}

// full are operations that have something where their kind has nothing.
func full() []api.Op {
	var l []api.Op
	for _, d := range []api.Dot{dot(0, 1), dot(1, 1), dot(1, 2), dot(7, 3), dot(3, 5), dot(0, -3), dot(1, 0), api.Root(), api.Trash()} {
		l = append(l,
			with(insert(), func(o *api.Op) { o.Parent = d }),
			with(remove(), func(o *api.Op) { o.Parent = d }),
			with(move(), func(o *api.Op) { o.At = d }),
			with(create(), func(o *api.Op) { o.At = d }))
	}
	for _, key := range []string{"n", "a", "\x00", " ", strings.Repeat("b", 201)} {
		l = append(l, each([]api.Op{insert(), remove()}, func(o *api.Op) { o.Key = key })...)
	}
	for _, n := range []int{1, -1, 2, 'x', math.MinInt, math.MaxInt, 1 << 32} {
		l = append(l, each([]api.Op{remove(), move(), create()}, func(o *api.Op) { o.Side = n })...)
		l = append(l, each([]api.Op{remove(), move(), create()}, func(o *api.Op) { o.Char = n })...)
	}
	return l
}

// noKinds are numbers of which none is a kind.
func noKinds() []int {
	return []int{0, 4, 5, -1, -2, -3, 63, 64, 256 + api.Insert, 1<<32 + api.Move, math.MinInt, math.MinInt + api.Delete, math.MaxInt}
}

// unkind are operations of no kind: what they have is that of each kind, or nothing.
func unkind() []api.Op {
	var l []api.Op
	for _, kind := range noKinds() {
		l = append(l, each(kinds(), func(o *api.Op) { o.Kind = kind })...)
		bare := api.Op{Id: dot(3, 5), Time: 10, Deps: vec(1, 2, 3, 4), Kind: kind, Block: dot(1, 2)}
		l = append(l, bare, with(bare, func(o *api.Op) { o.Block = api.Dot{} }))
	}
	return l
}

// unvectored are operations whose Deps are no vectors.
func unvectored() []api.Op {
	var l []api.Op
	for _, deps := range wrongDeps() {
		l = append(l, each(kinds(), func(o *api.Op) {
			o.Deps = deps
			o.Block = dot(3, 1)
			switch {
			case o.Key == "n":
				o.Block = o.Id
			case o.Kind == api.Move:
				o.Parent = dot(3, 2)
			case o.Kind == api.Delete:
				o.At = dot(3, 2)
			}
		})...)
	}
	return l
}

// wrong are operations that may not be.
func wrong() []api.Op {
	return slices.Concat(wrongHeads(), wrongParts(), full(), unkind(), unvectored(), []api.Op{{}})
}
