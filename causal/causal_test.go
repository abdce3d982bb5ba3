package causal_test

import (
	"math"
	"math/rand/v2"
	"reflect"
	"slices"
	"strconv"
	"strings"
	"testing"

	"osier/api"
	"osier/causal"
	"osier/dots"
	"osier/ops"
	"osier/vector"
)

// The calls, with just the signatures that the chapter lists.
var (
	_    func(api.Vector, api.Op) api.Errno  = causal.Ready
	_    func([]api.Op) ([]api.Op, []api.Op) = causal.Order
	_    func([]api.Op) bool                 = causal.Right
	_    func([]api.Op) api.Vector           = causal.Version
	_    func([]api.Op) []api.Dot            = causal.Frontier
	_, _ func(a, b api.Op) bool              = causal.Ahead, causal.Apart
)

const (
	lastAct = api.MaxActor - 1
	lastSeq = api.MaxSeq
)

// dot is the dot act.seq.
func dot(act, seq int) api.Dot { return api.Dot{Act: act, Seq: seq} }

// vec is a vector of Acts and Seqs, by turns.
func vec(n ...int) api.Vector {
	var v api.Vector
	for i := 0; i+1 < len(n); i += 2 {
		v = append(v, dot(n[i], n[i+1]))
	}
	return v
}

// op is the making of act.seq at a time, with Deps of Acts and Seqs, by turns.
func op(act, seq, time int, deps ...int) api.Op {
	return api.Op{Id: dot(act, seq), Time: time, Deps: vec(deps...), Kind: api.Move, Block: dot(act, seq), Parent: api.Root(), Key: "n"}
}

// keyed is an operation with another Key, so that it can be told from those of the same Id.
func keyed(o api.Op, key string) api.Op {
	o.Key = key
	return o
}

// wrongOf are operations that may not be, each for one thing in which it isn't as one that may; all have its Id.
func wrongOf(o api.Op) []api.Op {
	change := func(f func(o *api.Op)) api.Op {
		p := o
		f(&p)
		return p
	}
	return []api.Op{
		change(func(o *api.Op) { o.Time = 0 }),
		change(func(o *api.Op) { o.Time = -1 }),
		change(func(o *api.Op) { o.Time = api.MaxTime + 1 }),
		change(func(o *api.Op) { o.Key = "" }),
		change(func(o *api.Op) { o.Key = "na" }),
		change(func(o *api.Op) { o.Parent = o.Block }),
		change(func(o *api.Op) { o.Parent = dot(99, 9) }),
		change(func(o *api.Op) { o.Block = dot(99, 9) }),
		change(func(o *api.Op) { o.Kind = 0 }),
		change(func(o *api.Op) { o.Kind = api.Delete }),
		change(func(o *api.Op) { o.Char = 1 }),
		change(func(o *api.Op) { o.Deps = append(slices.Clone(o.Deps), dot(api.MaxActor, 1)) }),
		change(func(o *api.Op) { o.Deps = append(slices.Clone(o.Deps), dot(98, 0)) }),
		change(func(o *api.Op) { o.Deps = vec(o.Id.Act, o.Id.Seq) }),
	}
}

// noDots are dots that may not be.
func noDots() []api.Dot {
	return []api.Dot{
		{}, api.Root(), api.Trash(), dot(1, 0), dot(-1, 1), dot(1, -1), dot(api.MaxActor, 1), dot(1, lastSeq+1),
		dot(math.MinInt, 1), dot(math.MaxInt, 1), dot(1, math.MinInt), dot(1, math.MaxInt), dot(1<<32+1, 1), dot(1, 1<<32+1),
	}
}

// told is a row of operations as a text: of each its Id, Time and Key.
func told(l []api.Op) string {
	var out []string
	for _, o := range l {
		out = append(out, strconv.Itoa(o.Id.Act)+"."+strconv.Itoa(o.Id.Seq)+"@"+strconv.Itoa(o.Time)+o.Key)
	}
	return "[" + strings.Join(out, " ") + "]"
}

// sameRows tells whether two rows have the same operations in the same order.
func sameRows(a, b []api.Op) bool { return slices.EqualFunc(a, b, ops.Same) }

// copied is a row in memory of its own, with the room behind it and behind all Deps.
func copied(l []api.Op) []api.Op {
	out := slices.Clone(l[:cap(l)])
	for i, o := range out {
		out[i].Deps = slices.Clone(o.Deps[:cap(o.Deps)])[:len(o.Deps)]
	}
	return out[:len(l)]
}

// roomy is a row, in memory of its own, with room behind it and behind all Deps that is full of others and isn't to be used.
func roomy(l []api.Op) []api.Op {
	out := append(slices.Clone(l), op(77, 1, 7), op(77, 2, 7, 77, 1), op(77, 3, 7, 77, 2))
	for i, o := range out {
		out[i].Deps = append(slices.Clone(o.Deps), vec(88, 8, 89, 8)...)[:len(o.Deps)]
	}
	return out[:len(l)]
}

// whole is a row with the room behind it, and behind all Deps.
func whole(l []api.Op) []api.Op {
	out := slices.Clone(l[:cap(l)])
	for i, o := range out {
		out[i].Deps = o.Deps[:cap(o.Deps)]
	}
	return out
}

// spoil changes all of a row, its Deps, and the room behind them.
func spoil(l []api.Op) {
	l = l[:cap(l)]
	for i, o := range l {
		spoilDots(o.Deps)
		l[i] = op(-5, i, -7)
	}
}

// spoilDots changes all of a row of dots, and the room behind it.
func spoilDots(v []api.Dot) {
	v = v[:cap(v)]
	for i := range v {
		v[i] = dot(-99, i)
	}
}

// orders are all orders of a row.
func orders(l []api.Op) [][]api.Op {
	if len(l) == 0 {
		return [][]api.Op{nil}
	}
	var out [][]api.Op
	for i := range l {
		for _, rest := range orders(slices.Concat(l[:i], l[i+1:])) {
			out = append(out, append([]api.Op{l[i]}, rest...))
		}
	}
	return out
}

// rows are all rows of at most so many of these, each one as often as there is room for.
func rows(l []api.Op, most int) [][]api.Op {
	out := [][]api.Op{nil}
	for from := 0; most > 0; most-- {
		end := len(out)
		for _, row := range out[from:end] {
			for _, o := range l {
				out = append(out, append(slices.Clone(row), o))
			}
		}
		from = end
	}
	return out
}

// counts are the operations of a row that count, in the row's order: by a look at all ahead of each.
func counts(l []api.Op) []api.Op {
	var out []api.Op
	for _, o := range l {
		if ops.Check(o) && !slices.ContainsFunc(out, func(p api.Op) bool { return p.Id == o.Id }) {
			out = append(out, o)
		}
	}
	return out
}

// slowOrder is the chapter's way, word for word: a look at all for each that is taken in.
func slowOrder(l []api.Op) (in, left []api.Op) {
	var have api.Vector
	left = counts(l)
	slices.SortFunc(left, func(a, b api.Op) int {
		if ops.Less(a, b) {
			return -1
		}
		return 1
	})
	for {
		at := slices.IndexFunc(left, func(o api.Op) bool { return !vector.Has(have, o.Id) && vector.Below(o.Deps, have) })
		if at < 0 {
			return in, left
		}
		have = vector.With(have, left[at].Id)
		in = append(in, left[at])
		left = slices.Delete(left, at, at+1)
	}
}

// slowRight holds each operation against each.
func slowRight(l []api.Op) bool {
	in, _ := slowOrder(l)
	for i, a := range l {
		for j, b := range l {
			if i != j && vector.Has(b.Deps, a.Id) && a.Time >= b.Time {
				return false
			}
		}
	}
	return len(counts(l)) == len(l) && len(in) == len(l)
}

// slowVersion takes in one Id after the other.
func slowVersion(l []api.Op) api.Vector {
	var v api.Vector
	for _, o := range l {
		v = vector.With(v, o.Id)
	}
	return v
}

// slowFrontier holds each operation against each.
func slowFrontier(l []api.Op) []api.Dot {
	var out []api.Dot
	for _, a := range l {
		if !slices.ContainsFunc(l, func(b api.Op) bool { return a.Id != b.Id && vector.Has(b.Deps, a.Id) }) {
			out = append(out, a.Id)
		}
	}
	return dots.Rising(out)
}

// opOf is an operation that four bytes tell: of four actors, with a Seq up to 7 and Deps up to 3 of each; one that may not be among some others that may.
func opOf(b []byte) api.Op {
	act, seq := int(b[0]&3), int(b[0]>>2&7)
	var deps []int
	for i := range 4 {
		n := int(b[1] >> (2 * i) & 3)
		// Mostly an operation follows on its own actor's last one, as it must.
		if i == act && b[2]&0xe0 != 0 {
			n = seq - 1
		}
		if n > 0 {
			deps = append(deps, i, n)
		}
	}
	return keyed(op(act, seq, int(b[2]&7), deps...), string(rune('a'+b[3]%8)))
}

// opsOf are the operations that bytes tell.
func opsOf(b []byte) []api.Op {
	var l []api.Op
	for ; len(b) >= 4; b = b[4:] {
		l = append(l, opOf(b))
	}
	return l
}

// randomBytes are bytes from a source that is the same for each run.
func randomBytes(r *rand.Rand, n int) []byte {
	b := make([]byte, n)
	for i := range b {
		b[i] = byte(r.Uint32())
	}
	return b
}

// grown are operations as they come about at actors that know of some of one another's: right ones, unless times are wrong.
func grown(r *rand.Rand, n int, late func(deps int) int) []api.Op {
	var l []api.Op
	var knows [5]api.Vector
	times := map[api.Dot]int{}
	for range n {
		act := r.IntN(len(knows))
		if other := r.IntN(2 * len(knows)); other < len(knows) {
			knows[act] = vector.Join(knows[act], knows[other])
		}
		most := 0
		for _, d := range vector.Missing(knows[act], nil, math.MaxInt) {
			most = max(most, times[d])
		}
		o := op(act, vector.Get(knows[act], act)+1, late(most))
		o.Deps = knows[act]
		l = append(l, o)
		times[o.Id] = o.Time
		knows[act] = vector.With(knows[act], o.Id)
	}
	return l
}

// shuffled is a row in another order.
func shuffled(r *rand.Rand, l []api.Op) []api.Op {
	l = slices.Clone(l)
	r.Shuffle(len(l), func(i, j int) { l[i], l[j] = l[j], l[i] })
	return l
}

// checkKept looks at what a call leaves of what it was handed: all as it was, the room behind it too.
func checkKept(t *testing.T, what string, l []api.Op, call func(l []api.Op)) {
	t.Helper()
	l = roomy(l)
	was := copied(l)
	call(l)
	if !reflect.DeepEqual(whole(l), whole(was)) {
		t.Errorf("%s of %s: what was handed in is changed", what, told(was))
	}
}

// checkAll holds all calls that are told rows against the slow ones.
func checkAll(t *testing.T, l []api.Op) {
	t.Helper()
	in, left := causal.Order(l)
	if wantIn, wantLeft := slowOrder(l); !sameRows(in, wantIn) || !sameRows(left, wantLeft) {
		t.Fatalf("Order of %s: %s and %s, not %s and %s", told(l), told(in), told(left), told(wantIn), told(wantLeft))
	}
	if got, want := causal.Right(l), slowRight(l); got != want {
		t.Fatalf("Right of %+v: %v, not %v", l, got, want)
	}
	if got, want := causal.Version(l), slowVersion(l); !slices.Equal(got, want) {
		t.Fatalf("Version of %s: %v, not %v", told(l), got, want)
	}
	if got, want := causal.Frontier(l), slowFrontier(l); !slices.Equal(got, want) {
		t.Fatalf("Frontier of %+v: %v, not %v", l, got, want)
	}
}

// palette are operations of few Ids, of which some lean on others, some are of one Id, and some may not be.
func palette() []api.Op {
	return []api.Op{
		op(1, 1, 5),
		op(2, 1, 3),
		op(1, 2, 6, 1, 1),
		keyed(op(1, 2, 4, 1, 1, 2, 1), "m"),
		op(3, 1, 1, 1, 1),
		op(3, 2, 6, 1, 2, 2, 1, 3, 1),
		keyed(op(1, 1, 2, 2, 2), "m"),
		keyed(op(2, 1, 4, 1, 1, 2, 1), "w"),
		op(0, 0, 1, 1, 2),
	}
}

// P8.2, P8.3, P8.4: all rows of at most four out of a palette, as the slow ways tell them.
func TestPalette(t *testing.T) {
	for _, l := range rows(palette(), 4) {
		checkAll(t, l)
	}
}

// P8.2, P8.3, P8.4: operations at random, right ones and others, in any order and more than once.
func TestRandomRows(t *testing.T) {
	r := rand.New(rand.NewPCG(8, 1))
	for range 3000 {
		checkAll(t, opsOf(randomBytes(r, 4*r.IntN(30))))
		l := grown(r, r.IntN(30), func(deps int) int { return max(1, deps+r.IntN(7)-r.IntN(3)) })
		for range r.IntN(3) {
			l = append(l, opsOf(randomBytes(r, 4))...)
		}
		if len(l) > 0 && r.IntN(2) == 0 {
			l = slices.Delete(l, r.IntN(len(l)), len(l))
		}
		checkAll(t, shuffled(r, l))
		if len(l) > 0 {
			checkAll(t, shuffled(r, append(l, keyed(l[r.IntN(len(l))], "m"))))
			checkAll(t, shuffled(r, l)[1:])
		}
	}
}

// FuzzRows: whatever the operations, all calls tell what the slow ways tell.
func FuzzRows(f *testing.F) {
	f.Add([]byte{})
	f.Add([]byte{5, 0, 1, 13, 9, 0, 0xe2, 13, 6, 4, 0xe3, 13})
	f.Fuzz(func(t *testing.T, b []byte) {
		checkAll(t, opsOf(b[:min(len(b), 400)]))
	})
}
