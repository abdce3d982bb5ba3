package view_test

import (
	"math/rand/v2"
	"slices"
	"testing"

	"osier/api"
	"osier/causal"
	"osier/ops"
	"osier/vector"
	"osier/view"
)

// orders are all orders of a row.
func orders(l []api.Op) [][]api.Op {
	if len(l) == 0 {
		return [][]api.Op{nil}
	}
	var out [][]api.Op
	for i, o := range l {
		for _, rest := range orders(slices.Delete(slices.Clone(l), i, i+1)) {
			out = append(out, append([]api.Op{o}, rest...))
		}
	}
	return out
}

// behind tells whether in a row each operation comes behind those that its Deps have.
func behind(l []api.Op) bool {
	var have api.Vector
	for _, o := range l {
		if causal.Ready(have, o) != api.OK {
			return false
		}
		have = vector.With(have, o.Id)
	}
	return true
}

// some are rows of operations that all may be taken in: blocks that are moved under one another at once, and a text that several write while its block is thrown away.
func some() [][]api.Op {
	cross := []api.Op{
		made(1, a, root, "n"), made(1, c, root, "n"), made(2, d, trash, "n"),
		after(moved(dot(1, 2), 0, a, c, "n"), 3, 1, 1, 2, 1), after(moved(dot(2, 2), 0, c, a, "m"), 3, 1, 1, 2, 1), after(moved(dot(3, 2), 0, a, d, "n"), 2, 1, 1, 3, 1),
	}
	write := []api.Op{
		made(1, a, root, "n"), after(put(dot(1, 2), a, none, 'x'), 2, 1, 1), after(put(dot(2, 1), a, none, 'y'), 2, 1, 1),
		after(put(dot(3, 1), a, dot(1, 2), 'z'), 3, 1, 2), after(taken(dot(2, 2), a, dot(1, 2)), 4, 1, 2, 2, 1), after(moved(dot(1, 3), 0, a, trash, "n"), 3, 1, 2),
	}
	// Their times aren't above those on which they lean; a character leans on what is none, and another one is put into what is no block.
	late := []api.Op{
		made(5, a, root, "n"), after(made(0, b, a, "n"), 4, 1, 1), after(moved(dot(2, 1), 0, b, root, "n"), 3, 1, 2),
		after(put(dot(2, 2), a, dot(1, 2), 'x'), 2, 1, 2, 2, 1), after(put(dot(1, 3), dot(2, 1), none, 'y'), 2, 1, 2, 2, 1), after(moved(dot(3, 1), 0, a, b, "n"), 6, 1, 2),
	}
	return [][]api.Op{cross, write, late}
}

// P12.4: what operations come to is the same for every order in which they are handed in, and for every one in which they are Applied that has each behind those that its Deps have.
func TestEveryOrder(t *testing.T) {
	for _, l := range some() {
		if !behind(l) {
			t.Fatalf("%+v can't all be taken in", l)
		}
		_, m := of(l...)
		n := 0
		for _, o := range orders(l) {
			check(t, "handed in, in another order", view.Of(o), m)
			if got := view.View(o); got != m.shown() {
				t.Fatalf("in another order it is shown as %q, not %q", got, m.shown())
			}
			if behind(o) {
				n++
				s, _ := of(o...)
				check(t, "Applied in another order", s, m)
			}
		}
		if n < 6 {
			t.Errorf("there are but %d orders", n)
		}
	}
}

// writer is one who writes operations by chance, on top of those that are known.
type writer struct {
	r     *rand.Rand
	act   int
	known []api.Op
}

// any is one of the known operations that is as it is asked for, or none.
func (w *writer) any(is func(o api.Op) bool) api.Dot {
	var fit []api.Dot
	for _, o := range w.known {
		if is(o) {
			fit = append(fit, o.Id)
		}
	}
	if len(fit) == 0 {
		return none
	}
	return fit[w.r.IntN(len(fit))]
}

// block is a block, or now and then another operation, or none.
func (w *writer) block() api.Dot {
	whatever := w.r.IntN(12) == 0
	return w.any(func(o api.Op) bool { return whatever || o.Kind == api.Move && o.Block == o.Id })
}

// parent is under what a block can be put.
func (w *writer) parent() api.Dot {
	p := w.block()
	switch n := w.r.IntN(8); {
	case n < 2 || p == none:
		return root
	case n == 2:
		return trash
	}
	return p
}

// char is a character of a text, or now and then another operation, or none.
func (w *writer) char(block api.Dot) api.Dot {
	whatever := w.r.IntN(15) == 0
	return w.any(func(o api.Op) bool { return whatever || o.Kind == api.Insert && o.Block == block })
}

// next is one more operation, which leans on all that are known; it may be one that may not be.
func (w *writer) next() api.Op {
	o := api.Op{Deps: causal.Version(w.known), Time: 1, Kind: api.Move, Block: w.block()}
	o.Id = dot(w.act, 1+vector.Get(o.Deps, w.act))
	for _, k := range w.known {
		o.Time = max(o.Time, k.Time+1)
	}
	at := w.char(o.Block)
	switch n := w.r.IntN(10); {
	case n < 3 || o.Block == none:
		o.Block, o.Parent, o.Key = o.Id, w.parent(), []string{"b", "c", "cn", "n"}[w.r.IntN(4)]
	case n < 5:
		o.Parent, o.Key = w.parent(), []string{"b", "c", "cn", "n"}[w.r.IntN(4)]
	case n == 5 && at != none:
		o.Kind, o.At = api.Delete, at
	case at == none:
		o.Kind, o.Side, o.Char = api.Insert, api.Right, 'a'+w.r.IntN(26)
	default:
		o.Kind, o.At, o.Side, o.Char = api.Insert, at, w.r.IntN(2), 'a'+w.r.IntN(26)
	}
	return o
}

// hear makes what another one knows known, too.
func (w *writer) hear(from *writer) {
	for _, o := range from.known {
		if !slices.ContainsFunc(w.known, func(k api.Op) bool { return k.Id == o.Id }) {
			w.known = append(w.known, o)
		}
	}
}

// grown are operations by chance that some write who hear of one another now and then; if late, their Times are in no order.
func grown(r *rand.Rand, n int, late bool) []api.Op {
	var writers []*writer
	for act := range 1 + r.IntN(4) {
		writers = append(writers, &writer{r: r, act: 3 * act})
	}
	var out []api.Op
	for len(out) < n {
		w := writers[r.IntN(len(writers))]
		if r.IntN(3) == 0 {
			w.hear(writers[r.IntN(len(writers))])
		}
		o := w.next()
		if late {
			o.Time = 1 + r.IntN(n)
		}
		if ops.Check(o) {
			w.known = append(w.known, o)
			out = append(out, o)
		}
	}
	return out
}

// mixed is a row in another order, by chance.
func mixed(r *rand.Rand, l []api.Op) []api.Op {
	l = slices.Clone(l)
	r.Shuffle(len(l), func(i, j int) { l[i], l[j] = l[j], l[i] })
	return l
}

// leaning is a row in another order, by chance, that has each operation behind those that its Deps have.
func leaning(r *rand.Rand, l []api.Op) []api.Op {
	var out []api.Op
	var have api.Vector
	for l = mixed(r, l); len(l) > 0; {
		at := r.IntN(len(l))
		if causal.Ready(have, l[at]) == api.OK {
			have = vector.With(have, l[at].Id)
			out = append(out, l[at])
			l = slices.Delete(l, at, at+1)
		}
	}
	return out
}

// P12.4: that, of more operations by chance, with looks in between; those that come twice change nothing.
func TestGrown(t *testing.T) {
	r := rand.New(rand.NewPCG(12, 4))
	lines := 0
	for i := range 120 {
		l := grown(r, 1+r.IntN(60), i%3 == 0)
		if i%3 != 0 && !causal.Right(l) {
			t.Fatalf("%+v aren't right", l)
		}
		_, m := of(l...)
		check(t, "handed in", view.Of(mixed(r, l)), m)
		check(t, "handed in twice", view.Of(mixed(r, slices.Concat(l, l))), m)
		if got := view.View(mixed(r, l)); got != m.shown() {
			t.Fatalf("it is shown as %q, not %q", got, m.shown())
		}
		for range 3 {
			s := view.New()
			for _, o := range leaning(r, l) {
				s.Apply(o)
				if r.IntN(4) == 0 {
					s.Apply(o)
					lines += len(s.Lines(root))
				}
			}
			check(t, "Applied", s, m)
		}
	}
	if lines < 1000 {
		t.Errorf("there were but %d lines", lines)
	}
}

// P12.4: each block that is made is shown once, under the root or in the trash, and nothing else is.
func TestShownOnce(t *testing.T) {
	r := rand.New(rand.NewPCG(12, 5))
	atRoot, inTrash := 0, 0
	for range 200 {
		l := grown(r, 1+r.IntN(80), false)
		s := view.New()
		var blocks []api.Dot
		for _, o := range leaning(r, l) {
			s.Apply(o)
			if o.Kind == api.Move && o.Block == o.Id && s.Tree().Took(o.Id) {
				blocks = append(blocks, o.Id)
			}
			shown := slices.Concat(s.Lines(root), s.Lines(trash))
			var got []api.Dot
			for _, x := range shown {
				got = append(got, x.Block)
			}
			slices.SortFunc(got, byDots)
			slices.SortFunc(blocks, byDots)
			if !slices.Equal(got, blocks) {
				t.Fatalf("%v are shown, and %v were made", got, blocks)
			}
		}
		atRoot, inTrash = atRoot+len(s.Lines(root)), inTrash+len(s.Lines(trash))
	}
	if atRoot < 500 || inTrash < 500 {
		t.Errorf("there were but %d lines under the root, and %d in the trash", atRoot, inTrash)
	}
}

// P12.3: any operations, some of them wrong, twice there or without what they lean on: just those count that causal.Order takes in, in that order.
func TestGrownWrong(t *testing.T) {
	r := rand.New(rand.NewPCG(12, 3))
	left := 0
	for range 200 {
		l := mixed(r, grown(r, 2+r.IntN(50), r.IntN(2) == 0))
		for range 1 + r.IntN(4) {
			o := l[r.IntN(len(l))]
			switch r.IntN(4) {
			case 0:
				o.Key, o.Char = o.Key+"n", o.Char^1
			case 1:
				o.Time = r.IntN(9)
			case 2:
				o.Parent, o.At = o.At, o.Parent
			}
			l[r.IntN(len(l))] = o
		}
		in, out := causal.Order(l)
		left += len(out)
		checkOf(t, "with wrong ones", l, in...)
	}
	if left < 200 {
		t.Errorf("there were but %d that are left", left)
	}
}

// P12.1 to P12.3: any operations, Applied as they come and handed in as a row, held against the chapter's words.
func FuzzState(f *testing.F) {
	f.Add([]byte("\x03\x01\x01\x00\x01\x12\x01\x01\x00\x33\x21\x01\x02\x00\x05"))
	f.Add([]byte("abcdefghijklmnopqrstuvwxyz0123456789"))
	f.Fuzz(func(t *testing.T, bytes []byte) {
		near := func(n byte) api.Dot {
			return slices.Concat([]api.Dot{none, root, trash}, vec(1, 1, 1, 2, 2, 1, 2, 2, 1, 3, 0, 1, 2, 3))[n%10]
		}
		s, m := view.New(), &slow{}
		var l []api.Op
		for i := 0; i+4 < len(bytes) && i < 150; i += 5 {
			n := bytes[i]
			o := api.Op{Id: near(bytes[i+1]), Time: int(bytes[i+4] % 7), Kind: int(n % 5), Block: near(bytes[i+2])}
			o.Deps = slices.DeleteFunc(vec(o.Id.Act, o.Id.Seq-1), func(d api.Dot) bool { return d.Seq < 1 })
			switch o.Kind {
			case api.Move:
				o.Parent, o.Key = near(bytes[i+3]), string(rune('b'+n>>4))
			case api.Insert:
				o.At, o.Side, o.Char = near(bytes[i+3]), int(n>>6), i
			case api.Delete:
				o.At = near(bytes[i+3])
			}
			apply(s, m, o)
			l = append(l, o)
		}
		check(t, "any operations", s, m)
		in, _ := causal.Order(l)
		checkOf(t, "any operations, handed in", l, in...)
	})
}
