package doc_test

import (
	"math/rand/v2"
	"slices"
	"testing"

	"osier/api"
	"osier/causal"
	"osier/doc"
	"osier/ops"
	"osier/vector"
	"osier/view"
)

// orders are all orders of a row.
func orders(l []api.Op) [][]api.Op {
	if len(l) == 0 {
		return [][]api.Op{nil}
	}
	var out [][]api.Op
	for i, o := range l {
		for _, rest := range orders(slices.Delete(slices.Clone(l), i, i+1)) {
			out = append(out, append([]api.Op{o}, rest...))
		}
	}
	return out
}

// some are right rows: blocks that are moved under one another at once, and a text that several write while its block is thrown away.
func some() [][]api.Op {
	return [][]api.Op{
		{
			made(1, 1, 1), made(2, 1, 1), moved(3, 1, 2, dot(3, 1), trash),
			moved(1, 2, 3, dot(1, 1), dot(2, 1), 1, 1, 2, 1), moved(2, 2, 3, dot(2, 1), dot(1, 1), 1, 1, 2, 1), moved(3, 2, 4, dot(1, 1), dot(3, 1), 1, 1, 3, 1),
		},
		{
			made(1, 1, 1), put(1, 2, 2, dot(1, 1), none, 'x', 1, 1), put(2, 1, 2, dot(1, 1), none, 'y', 1, 1),
			put(3, 1, 3, dot(1, 1), dot(1, 2), 'z', 1, 2), taken(2, 2, 4, dot(1, 1), dot(1, 2), 1, 2, 2, 1), moved(1, 3, 3, dot(1, 1), trash, 1, 2),
		},
	}
}

// checkSame looks that two documents are the same in all that hangs on what was taken in.
func checkSame(t *testing.T, what string, got, want *doc.Doc) {
	t.Helper()
	if !same(got.Ops(), want.Ops()) || !slices.Equal(got.Version(), want.Version()) || got.Time() != want.Time() || got.Show() != want.Show() {
		t.Fatalf("%s: %v, %d, %q, not %v, %d, %q", what, got.Version(), got.Time(), got.Show(), want.Version(), want.Time(), want.Show())
	}
	checkState(t, what, got, want.State())
}

// P13.5: all of a right set is taken in, and nothing waits, in every order, and comes to the same.
func TestEveryOrder(t *testing.T) {
	for _, l := range some() {
		if !causal.Right(l) {
			t.Fatalf("%+v aren't right", l)
		}
		want, _ := of(t, l...)
		for _, o := range orders(l) {
			d := doc.New()
			var in []api.Op
			for _, x := range o {
				got, e := d.Deliver(x)
				if e != api.OK {
					t.Fatalf("Deliver of %v: error %d", x.Id, e)
				}
				in = append(in, got...)
			}
			if len(in) != len(l) || len(d.Waiting()) != 0 {
				t.Fatalf("%v were taken in, and %v wait", ids(in), ids(d.Waiting()))
			}
			checkSame(t, "in another order", d, want)
			if d.Show() != view.View(l) {
				t.Fatalf("it is shown as %q, not %q", d.Show(), view.View(l))
			}
		}
	}
}

// writer is one who writes operations by chance, on top of those that are known.
type writer struct {
	r     *rand.Rand
	act   int
	known []api.Op
}

// any is one of the known operations that is as it is asked for, or none.
func (w *writer) any(is func(o api.Op) bool) api.Dot {
	var fit []api.Dot
	for _, o := range w.known {
		if is(o) {
			fit = append(fit, o.Id)
		}
	}
	if len(fit) == 0 {
		return none
	}
	return fit[w.r.IntN(len(fit))]
}

// block is a block, or now and then another operation, or none.
func (w *writer) block() api.Dot {
	whatever := w.r.IntN(12) == 0
	return w.any(func(o api.Op) bool { return whatever || o.Kind == api.Move && o.Block == o.Id })
}

// parent is under what a block can be put.
func (w *writer) parent() api.Dot {
	p := w.block()
	switch n := w.r.IntN(8); {
	case n < 2 || p == none:
		return root
	case n == 2:
		return trash
	}
	return p
}

// next is one more operation, which leans on all that are known; it may be one that may not be.
func (w *writer) next() api.Op {
	o := api.Op{Deps: causal.Version(w.known), Time: 1, Kind: api.Move, Block: w.block()}
	o.Id = dot(w.act, 1+vector.Get(o.Deps, w.act))
	for _, k := range w.known {
		o.Time = max(o.Time, k.Time+1)
	}
	at := w.any(func(k api.Op) bool { return k.Kind == api.Insert && k.Block == o.Block })
	switch n := w.r.IntN(10); {
	case n < 3 || o.Block == none:
		o.Block, o.Parent, o.Key = o.Id, w.parent(), []string{"b", "c", "cn", "n"}[w.r.IntN(4)]
	case n < 5:
		o.Parent, o.Key = w.parent(), []string{"b", "c", "cn", "n"}[w.r.IntN(4)]
	case n == 5 && at != none:
		o.Kind, o.At = api.Delete, at
	case at == none:
		o.Kind, o.Side, o.Char = api.Insert, api.Right, 'a'+w.r.IntN(26)
	default:
		o.Kind, o.At, o.Side, o.Char = api.Insert, at, w.r.IntN(2), 'a'+w.r.IntN(26)
	}
	return o
}

// hear makes what another one knows known, too.
func (w *writer) hear(from *writer) {
	for _, o := range from.known {
		if !is(w.known, o.Id) {
			w.known = append(w.known, o)
		}
	}
}

// grown are operations by chance that some write who hear of one another now and then; of late ones so many in a hundred, whose Time is any.
func grown(r *rand.Rand, n, late int) []api.Op {
	var writers []*writer
	for act := range 1 + r.IntN(4) {
		writers = append(writers, &writer{r: r, act: 3 * act})
	}
	var out []api.Op
	for len(out) < n {
		w := writers[r.IntN(len(writers))]
		if r.IntN(3) == 0 {
			w.hear(writers[r.IntN(len(writers))])
		}
		o := w.next()
		if r.IntN(100) < late {
			o.Time = 1 + r.IntN(n)
		}
		if ops.Check(o) {
			w.known = append(w.known, o)
			out = append(out, o)
		}
	}
	return out
}

// mixed is a row in another order, by chance.
func mixed(r *rand.Rand, l []api.Op) []api.Op {
	l = slices.Clone(l)
	r.Shuffle(len(l), func(i, j int) { l[i], l[j] = l[j], l[i] })
	return l
}

// P13.5: right sets by chance, told in any order, once and twice, with looks in between: all are taken in, nothing waits, and all documents are the same.
func TestGrown(t *testing.T) {
	r := rand.New(rand.NewPCG(13, 5))
	waited := 0
	for range 60 {
		l := grown(r, 1+r.IntN(50), 0)
		if !causal.Right(l) {
			t.Fatalf("%+v aren't right", l)
		}
		want, _ := of(t, l...)
		for _, told := range [][]api.Op{mixed(r, l), mixed(r, slices.Concat(l, l)), slices.Concat(mixed(r, l), mixed(r, l))} {
			d, m := doc.New(), &slow{}
			for _, o := range told {
				tell(t, d, m, o)
				waited += len(d.Waiting())
				if r.IntN(8) == 0 {
					check(t, "told so far", d, m)
				}
			}
			check(t, "all told", d, m)
			checkSame(t, "in another order", d, want)
			if len(d.Waiting()) != 0 || len(d.Ops()) != len(l) || d.Show() != view.View(l) {
				t.Fatalf("%v wait", ids(d.Waiting()))
			}
		}
	}
	if waited < 1000 {
		t.Errorf("there were but %d that waited", waited)
	}
}

// P13.2, P13.5: sets by chance with late ones among them, told in any order, once and twice: whichever are thrown away, what is left is the same.
func TestGrownLate(t *testing.T) {
	r := rand.New(rand.NewPCG(13, 2))
	thrown, stuck := 0, 0
	for range 120 {
		l := grown(r, 1+r.IntN(40), 15)
		want, _ := of(t, l...)
		for _, told := range [][]api.Op{mixed(r, l), mixed(r, slices.Concat(l, l))} {
			d, m := doc.New(), &slow{}
			for _, o := range told {
				tell(t, d, m, o)
				if r.IntN(8) == 0 {
					check(t, "told so far", d, m)
				}
			}
			check(t, "all told", d, m)
			checkSame(t, "in another order", d, want)
			stuck += len(d.Waiting())
			thrown += len(l) - len(d.Ops()) - len(d.Waiting())
		}
	}
	if thrown < 100 || stuck < 100 {
		t.Errorf("but %d were thrown away, and %d left waiting", thrown, stuck)
	}
}

// P13.2: operations by chance, some of them wrong, lost, twice there, or another one with the Id of one.
func TestGrownWrong(t *testing.T) {
	r := rand.New(rand.NewPCG(13, 3))
	errors := map[api.Errno]int{}
	for range 150 {
		l := mixed(r, grown(r, 2+r.IntN(40), 10))
		for range 1 + r.IntN(6) {
			o := l[r.IntN(len(l))]
			switch r.IntN(4) {
			case 0:
				o.Key, o.Char = o.Key+"n", o.Char^1
			case 1:
				o.Time = r.IntN(9)
			case 2:
				o.Parent, o.At = o.At, o.Parent
			}
			l[r.IntN(len(l))] = o
		}
		d, m := doc.New(), &slow{}
		for _, o := range l {
			got, e := d.Deliver(o)
			errors[e]++
			if want, error := m.deliver(o); e != error || !same(got, want) {
				t.Fatalf("Deliver of %+v is %v, %d, not %v, %d", o, ids(got), e, ids(want), error)
			}
		}
		check(t, "with wrong ones", d, m)
	}
	for _, e := range []api.Errno{api.OK, api.ErrOp, api.ErrTwice} {
		if errors[e] < 20 {
			t.Errorf("error %d was told but %d times", e, errors[e])
		}
	}
}

// P13.5: what a document was given by another one's Since, piece by piece, makes them the same.
func TestBroughtAlong(t *testing.T) {
	r := rand.New(rand.NewPCG(13, 6))
	for range 30 {
		l := mixed(r, grown(r, 1+r.IntN(60), 0))
		from, _ := of(t, l...)
		to, _ := of(t, l[:r.IntN(len(l)+1)]...)
		for rounds := 0; ; rounds++ {
			more := from.Since(to.Version(), 7)
			if len(more) == 0 {
				break
			}
			if rounds > len(l) {
				t.Fatalf("%v come again and again", ids(more))
			}
			for _, o := range more {
				if _, e := to.Deliver(o); e != api.OK && e != api.ErrTwice {
					t.Fatalf("Deliver of %v: error %d", o.Id, e)
				}
			}
		}
		checkSame(t, "brought along", to, from)
	}
}

// P13.1 to P13.3: any operations of few actors, held against the chapter's words.
func FuzzDoc(f *testing.F) {
	f.Add([]byte("\x03\x01\x01\x00\x01\x12\x01\x01\x00\x33\x21\x01\x02\x00\x05"))
	f.Add([]byte("abcdefghijklmnopqrstuvwxyz0123456789"))
	f.Fuzz(func(t *testing.T, bytes []byte) {
		d, m := doc.New(), &slow{}
		for i := 0; i+4 < len(bytes) && i < 200; i += 5 {
			n := bytes[i]
			o := api.Op{Id: dot(int(n%3), 1+int(n>>4%4)), Time: 1 + int(bytes[i+1]%16), Kind: 1 + int(bytes[i+1]>>4%3)}
			for act := range 3 {
				seq := int(bytes[i+2] >> (2 * act) % 4)
				if act == o.Id.Act {
					seq = o.Id.Seq - 1
				}
				if seq > 0 {
					o.Deps = append(o.Deps, dot(act, seq))
				}
			}
			near := append(vec(0, 1, 1, 1, 2, 1, 0, 2, 1, 2, 2, 2), none, root, trash, o.Id)
			o.Block = near[int(bytes[i+3])%len(near)]
			switch other := near[int(bytes[i+4])%len(near)]; o.Kind {
			case api.Move:
				o.Parent, o.Key = other, string(rune('b'+n>>4))
			case api.Insert:
				o.At, o.Side, o.Char = other, int(bytes[i+4]>>7), 'a'+i%26
			case api.Delete:
				o.At = other
			}
			tell(t, d, m, o)
		}
		check(t, "any operations", d, m)
	})
}
