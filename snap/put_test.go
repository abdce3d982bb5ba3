package snap_test

import (
	"bytes"
	"reflect"
	"slices"
	"testing"

	"osier/api"
	"osier/branch"
	"osier/num"
	"osier/ops"
	"osier/snap"
)

// checkPut looks at the bytes of branches, which stay as they are.
func checkPut(t *testing.T, what string, b *branch.Branches, want []byte) {
	t.Helper()
	was := seen(b)
	if got := snap.Put(b); !bytes.Equal(got, want) {
		t.Errorf("%s: Put is\n%v, not\n%v", what, got, want)
	}
	if !reflect.DeepEqual(seen(b), was) {
		t.Errorf("%s: Put changed something", what)
	}
}

// P20.1: new branches, at any replica.
func TestPutFresh(t *testing.T) {
	for _, replica := range []int{0, 1, 3, 255, 256, api.MaxReplicas - 1} {
		checkPut(t, "fresh", newAt(t, replica), []byte{1, 4, 109, 97, 105, 110, 0, 0})
	}
}

// P20.1: of nil nothing; of branches that are just declared there are none.
func TestPutNil(t *testing.T) {
	if got := snap.Put(nil); len(got) != 0 {
		t.Errorf("Put of nil is %v", got)
	}
	checkPut(t, "declared", new(branch.Branches), []byte{0})
}

// P20.1: the bytes of an operation that was taken in, and of one that waits, by hand.
func TestPutByHand(t *testing.T) {
	one := []byte{2, 2, 2, 0, 6, 2, 2, 0, 1, 1, 110}
	two := []byte{2, 4, 4, 1, 2, 2, 6, 2, 4, 0, 1, 1, 110}
	in := newAt(t, 0)
	deliver(t, in, "main", made(1, 1, 1))
	checkPut(t, "taken in", in, slices.Concat([]byte{1, 4}, []byte("main"), []byte{1}, one, []byte{0}))
	waits := newAt(t, 0)
	deliver(t, waits, "main", made(1, 2, 2, 1, 1))
	checkPut(t, "waits", waits, slices.Concat([]byte{1, 4}, []byte("main"), []byte{0, 1}, two))
	deliver(t, waits, "main", made(1, 1, 1))
	checkPut(t, "both taken in", waits, slices.Concat([]byte{1, 4}, []byte("main"), []byte{2}, one, two, []byte{0}))
	must(t, "a", in.Fork("a", "main", nil))
	deliver(t, in, "a", made(1, 2, 2, 1, 1))
	checkPut(t, "two branches", in, slices.Concat([]byte{2, 4}, []byte("main"), []byte{1}, one, []byte{0, 1, 'a', 0, 1}, two))
}

// P20.1: what was taken in, and what waits, is put by ops.Less, in whatever order it was told.
func TestPutOrder(t *testing.T) {
	l := chain()
	left := []api.Op{made(500, 2, 1, 500, 1), made(400, 2, 2, 400, 1), made(500, 3, 2, 500, 2), made(300, 9, 70, 300, 8)}
	want := putAll(put1("main", l, left))
	all := slices.Concat(l, left)
	for range len(all) {
		all = append(all[1:], all[0])
		b := newAt(t, 3)
		deliver(t, b, "main", all...)
		checkPut(t, "turned", b, want)
		slices.Reverse(all)
		c := newAt(t, 3)
		deliver(t, c, "main", all...)
		checkPut(t, "turned back", c, want)
		slices.Reverse(all)
	}
}

// P20.1: several branches, in the order in which they were made.
func TestPutSeveral(t *testing.T) {
	b := newAt(t, 3)
	names := []string{"main", "z", "A", "0", "b", "-", "a"}
	var want []string
	for i, name := range names {
		if i > 0 {
			must(t, name, b.Fork(name, "main", nil))
		}
	}
	for i, name := range names {
		l := chain()[:i]
		deliver(t, b, name, l...)
		want = append(want, put1(name, l, nil))
	}
	checkPut(t, "several", b, putAll(want...))
}

// P20.1: counts in more than one byte: of branches, of operations that were taken in, and of those that wait.
func TestPutCounts(t *testing.T) {
	for _, n := range []int{0, 1, 127, 128, 129, 300} {
		b := newAt(t, 3)
		var in, left []api.Op
		for i := range n {
			in = append(in, made(i+1, 1, 1))
			left = append(left, made(i+1, 3, 9, i+1, 2))
		}
		deliver(t, b, "main", slices.Concat(left, in)...)
		checkPut(t, "operations", b, putAll(put1("main", in, left)))
		want := []string{put1("main", in, left)}
		for i := 1; i < min(n, api.MaxBranches); i++ {
			name := repeated("a", 1+i%32) + repeated("b", i/32)
			name = name[max(0, len(name)-api.MaxName):]
			if b.Fork(name, "main", nil) == api.OK {
				want = append(want, put1(name, nil, nil))
			}
		}
		checkPut(t, "branches", b, putAll(want...))
	}
}

// P20.1: branches of many kinds, by the words of the chapter.
func TestPutFixtures(t *testing.T) {
	for _, f := range fixtures(t) {
		checkPut(t, f.what, f.b, byWords(f.b))
	}
}

// P20.1: the bytes are new memory.
func TestPutIsNew(t *testing.T) {
	for _, f := range fixtures(t) {
		was, first := seen(f.b), snap.Put(f.b)
		want := bytes.Clone(first)
		clear(first)
		_ = append(first[:0], repeated("x", cap(first))...)
		if got := snap.Put(f.b); !bytes.Equal(got, want) || !reflect.DeepEqual(seen(f.b), was) {
			t.Errorf("%s: an answer that is changed changes something", f.what)
		}
	}
}

// P20.1: what is put are a number of branches, and rows of operations, that can be read one by one.
func TestPutIsRead(t *testing.T) {
	for _, f := range fixtures(t) {
		r := num.Read(snap.Put(f.b))
		var names []string
		for range r.Count(3) {
			names = append(names, r.Text())
			for _, l := range [][]api.Op{f.b.Doc(names[len(names)-1]).Ops(), f.b.Doc(names[len(names)-1]).Waiting()} {
				var got []api.Op
				for range r.Count(10) {
					got = append(got, ops.Take(r))
				}
				if !slices.EqualFunc(got, l, ops.Same) {
					t.Errorf("%s: a row of %q is %v, not %v", f.what, names[len(names)-1], got, l)
				}
			}
		}
		if e := r.End(); e != api.OK || !slices.Equal(names, f.b.Names()) {
			t.Errorf("%s: error %d, names %q, not %q", f.what, e, names, f.b.Names())
		}
	}
}
