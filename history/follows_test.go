package history_test

import (
	"math/rand/v2"
	"slices"
	"testing"

	"osier/api"
	"osier/causal"
	"osier/clock"
	"osier/doc"
	"osier/edits"
	"osier/history"
	"osier/ops"
	"osier/vector"
	"osier/view"
)

// writer is a user with a document, and a clock.
type writer struct {
	d *doc.Doc
	c *clock.Clock
}

// hear tells a writer of all that another one has.
func (w writer) hear(from writer) {
	for _, o := range from.d.Since(w.d.Version(), api.MaxOps) {
		w.d.Deliver(o)
	}
}

// edit makes an edit by chance, if it can be made.
func (w writer) edit(r *rand.Rand) []api.Op {
	blocks := append(w.d.State().Tree().Blocks(), root)
	any := func() api.Dot { return blocks[r.IntN(len(blocks))] }
	e := api.Edit{Kind: 1 + r.IntN(5), Block: any(), Parent: any(), Index: r.IntN(3), Count: r.IntN(3), Text: "abc"[:r.IntN(4)]}
	made, _ := edits.Make(w.d, w.c, e)
	return made
}

// grown are at least so many operations that some write who hear of one another now and then: each one comes behind those on which it leans.
func grown(r *rand.Rand, n int) []api.Op {
	var writers []writer
	for i := range 1 + r.IntN(4) {
		c, _ := clock.New(3*i, 0, 0)
		writers = append(writers, writer{d: doc.New(), c: c})
	}
	var out []api.Op
	for len(out) < n {
		w := writers[r.IntN(len(writers))]
		if r.IntN(3) == 0 {
			w.hear(writers[r.IntN(len(writers))])
		}
		out = append(out, w.edit(r)...)
	}
	return out
}

// mixed is a row in another order, by chance.
func mixed(r *rand.Rand, l []api.Op) []api.Op {
	l = slices.Clone(l)
	r.Shuffle(len(l), func(i, j int) { l[i], l[j] = l[j], l[i] })
	return l
}

// spoiled is a row in another order, with some that may not be, that come too late, that are lost, and that are there twice.
func spoiled(r *rand.Rand, l []api.Op) []api.Op {
	l = mixed(r, l)
	for range min(len(l), r.IntN(5)) {
		o := l[r.IntN(len(l))]
		switch r.IntN(4) {
		case 0:
			o.Key, o.Char = o.Key+"n", o.Char^1
		case 1:
			o.Time = r.IntN(9)
		case 2:
			o.Parent, o.At = o.At, o.Parent
		}
		l[r.IntN(len(l))] = o
	}
	return l
}

// opsOf are the operations that bytes tell, four for each: of four actors, with a Seq up to 7 and Deps up to 3 of each; some that may not be among others that may.
func opsOf(b []byte) []api.Op {
	var l []api.Op
	for ; len(b) >= 4; b = b[4:] {
		o := keyed(made(int(b[0]&3), int(b[0]>>2&7), int(b[2]&7)), string(rune('a'+b[3]%8)))
		for act := range 4 {
			n := int(b[1] >> (2 * act) & 3)
			// Mostly an operation follows on its own actor's last one, as it must.
			if act == o.Id.Act && b[2]&0xe0 != 0 {
				n = o.Id.Seq - 1
			}
			if n > 0 {
				o.Deps = append(o.Deps, dot(act, n))
			}
		}
		if len(o.Deps) > 0 && b[3]&0x20 != 0 {
			o.Block = o.Deps[int(b[3]>>6)%len(o.Deps)]
		}
		if len(o.Deps) > 0 && b[3]&0x10 != 0 {
			o.Kind, o.Key, o.Parent, o.Block, o.Side, o.Char = api.Insert, "", none, o.Deps[0], api.Right, 'a'+int(b[3]&15)
		}
		l = append(l, o)
	}
	return l
}

// randomBytes are bytes from a source that is the same for each run.
func randomBytes(r *rand.Rand, n int) []byte {
	b := make([]byte, n)
	for i := range b {
		b[i] = byte(r.Uint32())
	}
	return b
}

// P16.4: what a version comes to, once it is there, stays as it was when later operations are there too, right ones, wrong ones, and others of one Id.
func TestStays(t *testing.T) {
	r := rand.New(rand.NewPCG(16, 4))
	for range 15 {
		l := grown(r, 1+r.IntN(40))
		for i := range len(l) + 1 {
			now := l[:i]
			versions := []api.Vector{causal.Version(now)}
			if i > 0 {
				versions = append(versions, history.Saw(now[r.IntN(i)]), vector.Join(history.Saw(now[r.IntN(i)]), history.Saw(now[r.IntN(i)])))
			}
			for _, v := range versions {
				was, e := history.Checkout(now, v)
				if e != api.OK {
					t.Fatalf("Checkout of %v, %v: error %d", ids(now), v, e)
				}
				checkCheckout(t, slices.Concat(now, l), v, was...)
				checkCheckout(t, mixed(r, l), v, was...)
				checkCheckout(t, slices.Concat(now, spoiled(r, l)), v, was...)
				checkCheckout(t, history.Union(mixed(r, l), now), v, was...)
			}
		}
	}
}

// P16.4: the version of all is what all come to.
func TestAll(t *testing.T) {
	r := rand.New(rand.NewPCG(16, 5))
	for range 100 {
		l := grown(r, 1+r.IntN(60))
		want := slices.SortedFunc(slices.Values(l), byTime)
		checkCheckout(t, mixed(r, l), causal.Version(l), want...)
	}
}

// P16.4: Saw of each operation of a right set is a version of it, which has that operation, and else just what its Deps have; so is what several of them saw together, and what all of them saw.
func TestSawIsVersion(t *testing.T) {
	r := rand.New(rand.NewPCG(16, 6))
	for range 25 {
		l := grown(r, 1+r.IntN(50))
		if !causal.Right(l) {
			t.Fatalf("%v aren't right", ids(l))
		}
		all := slices.SortedFunc(slices.Values(l), byTime)
		row := mixed(r, l)
		for _, o := range l {
			want := slices.DeleteFunc(slices.Clone(all), func(x api.Op) bool { return x.Id != o.Id && !has(o.Deps, x.Id) })
			checkCheckout(t, row, history.Saw(o), want...)
			checkCheckout(t, row, o.Deps, slices.DeleteFunc(slices.Clone(want), func(x api.Op) bool { return x.Id == o.Id })...)
			other := history.Saw(l[r.IntN(len(l))])
			for _, v := range []api.Vector{vector.Join(history.Saw(o), other), vector.Meet(history.Saw(o), other)} {
				checkCheckout(t, row, v, slices.DeleteFunc(slices.Clone(all), func(x api.Op) bool { return !has(v, x.Id) })...)
			}
		}
	}
}

// P16.4: where one Id is one operation, Union can be turned, put together in any order, and done twice.
func TestUnionFollows(t *testing.T) {
	r := rand.New(rand.NewPCG(16, 7))
	for range 200 {
		l := grown(r, 1+r.IntN(60))
		some := func() []api.Op { return mixed(r, l)[:r.IntN(len(l)+1)] }
		x, y, z := some(), some(), some()
		xy := history.Union(x, y)
		if !same(history.Union(y, x), xy) {
			t.Fatalf("%v and %v can't be turned", ids(x), ids(y))
		}
		if !same(history.Union(xy, z), history.Union(x, history.Union(y, z))) || !same(history.Union(xy, z), history.Union(history.Union(z, x), y)) {
			t.Fatalf("%v, %v and %v can't be put together in any order", ids(x), ids(y), ids(z))
		}
		if !same(history.Union(x, x), history.Union(x, nil)) || !same(history.Union(xy, y), xy) || !same(history.Union(xy, xy), xy) {
			t.Fatalf("%v and %v can't be done twice", ids(x), ids(y))
		}
		if !same(history.Union(l, x), slices.SortedFunc(slices.Values(l), byTime)) {
			t.Fatalf("%v has not all of %v", ids(history.Union(l, x)), ids(l))
		}
	}
}

// P16.4: between equal states nothing changed: one and itself, and two that come from the same operations in other orders.
func TestEqualStates(t *testing.T) {
	r := rand.New(rand.NewPCG(16, 8))
	for range 150 {
		l := grown(r, r.IntN(60))
		s := view.Of(l)
		checkDiff(t, "itself", s, s)
		checkDiff(t, "in another order", s, view.Of(mixed(r, l)))
		checkDiff(t, "one by one", s, applied(l...))
		at, e := history.At(mixed(r, l), causal.Version(l))
		if e != api.OK {
			t.Fatalf("At of all: error %d", e)
		}
		checkDiff(t, "at the version of all", s, at)
	}
}

// P16.3: what changed between any two versions, as the chapter's words tell it.
func TestDiffAtRandom(t *testing.T) {
	r := rand.New(rand.NewPCG(16, 9))
	kinds := map[int]int{}
	for range 300 {
		l := grown(r, 1+r.IntN(80))
		one, e := history.At(l, history.Saw(l[r.IntN(len(l))]))
		two, f := history.At(l, history.Saw(l[r.IntN(len(l))]))
		if e != api.OK || f != api.OK {
			t.Fatalf("errors %d and %d", e, f)
		}
		want := slowDiff(one, two)
		checkDiff(t, "two versions", one, two, want...)
		checkDiff(t, "from the beginning", nil, two, slowDiff(view.New(), two)...)
		for _, c := range want {
			kinds[c.Kind]++
		}
	}
	for kind := history.Made; kind <= history.Written; kind++ {
		if kinds[kind] < 50 {
			t.Errorf("there were but %d changes of kind %d", kinds[kind], kind)
		}
	}
}

// P16.1 to P16.3: any operations at any version, held against the chapter's words.
func FuzzHistory(f *testing.F) {
	f.Add([]byte{}, []byte{})
	f.Add([]byte{5, 0, 1, 13, 9, 0, 0xe2, 13, 6, 4, 0xe3, 13}, []byte{1, 2})
	f.Add([]byte("abcdefghijklmnopqrstuvwxyz0123456789"), []byte("ab"))
	f.Fuzz(func(t *testing.T, told, version []byte) {
		l := opsOf(told[:min(len(told), 400)])
		var v api.Vector
		for i, n := range version[:min(len(version), 4)] {
			v = append(v, dot(i+int(n>>4&1), int(n&7)))
		}
		checkAny(t, l, v)
		half := len(l) / 2
		checkUnion(t, l[:half], l[half:], slowUnion(l[:half], l[half:])...)
		checkDiff(t, "any operations", applied(l[:half]...), applied(l[half:]...), slowDiff(applied(l[:half]...), applied(l[half:]...))...)
		for _, o := range l {
			if ops.Check(o) {
				checkAny(t, l, history.Saw(o))
			}
		}
	})
}
