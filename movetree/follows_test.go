package movetree_test

import (
	"math/rand/v2"
	"slices"
	"testing"

	"osier/api"
	"osier/movetree"
)

// P10.4: the state is the same for every order in which moves come.
func TestEveryOrder(t *testing.T) {
	for _, l := range [][]move{
		{made(1, a, root, "n"), made(2, b, a, "n"), moved(1, 3, 3, a, b, "n"), moved(2, 1, 2, b, trash, "n"), moved(3, 1, 3, b, root, "m"), moved(3, 2, 4, a, root, "z")},
		{made(1, a, root, "n"), made(1, b, root, "n"), made(1, c, root, "n"), moved(7, 1, 2, a, b, "n"), moved(8, 1, 2, b, c, "n"), moved(9, 1, 2, c, a, "n")},
		{made(1, a, root, "n"), made(2, d, a, "n"), made(3, b, d, "n"), moved(9, 1, 2, a, trash, "x"), moved(9, 2, 4, d, root, ""), moved(9, 3, 5, a, b, "n")},
		{made(3, a, b, "n"), made(2, b, root, "n"), made(2, c, b, "n"), moved(9, 1, 2, c, c, "n"), moved(9, 2, 4, b, a, "n"), moved(9, 3, 4, a, root, "n")},
	} {
		_, s := of(t, l...)
		for i, o := range orders(l) {
			x, _ := of(t, o...)
			check(t, "in another order", x, s)
			if i%7 == 0 {
				lookedAt(t, o)
			}
		}
	}
}

// lookedAt looks at a tree behind each move.
func lookedAt(t *testing.T, l []move) {
	t.Helper()
	x, s := of(t)
	for _, m := range l {
		tell(t, x, s, m)
		check(t, "in another order, looked at", x, s)
	}
}

// grown are moves by chance of a few blocks, with times and ids that are in no order, some of them the same.
func grown(r *rand.Rand, n int) []move {
	any := func() api.Dot { return dot(r.IntN(3), 1+r.IntN(1+n/6)) }
	keys := []string{"", "a", "b", "bb", "n"}
	s := &slow{}
	for len(s.moves) < n {
		m := move{id: dot(r.IntN(8), 1+r.IntN(n)), time: r.IntN(2 * n), block: any(), parent: any(), key: keys[r.IntN(len(keys))]}
		switch r.IntN(6) {
		case 0, 1:
			m.id, m.time = m.block, r.IntN(n)
		case 2:
			m.parent = trash
		}
		if r.IntN(3) == 0 {
			m.parent = root
		}
		s.tell(m)
	}
	return s.moves
}

// mixed is a row in another order, by chance.
func mixed(r *rand.Rand, l []move) []move {
	l = slices.Clone(l)
	r.Shuffle(len(l), func(i, j int) { l[i], l[j] = l[j], l[i] })
	return l
}

// P10.4: that, of more moves, with looks in between.
func TestGrown(t *testing.T) {
	r := rand.New(rand.NewPCG(10, 4))
	took, no := 0, 0
	for range 60 {
		l := grown(r, 1+r.IntN(80))
		for range 3 {
			x, s := of(t)
			for _, m := range mixed(r, l) {
				tell(t, x, s, m)
				if r.IntN(10) == 0 {
					check(t, "grown, in between", x, s)
				}
			}
			check(t, "grown", x, s)
			for _, m := range l {
				if x.Took(m.id) {
					took++
				} else {
					no++
				}
			}
		}
	}
	if took < 1000 || no < 1000 {
		t.Errorf("of the moves %d took effect, %d didn't", took, no)
	}
}

// P10.4: each block's Path ends at Root or Trash, has no block twice, and goes from each one to its parent; each block is among the Kids of its parent, and of no other one.
func TestTree(t *testing.T) {
	r := rand.New(rand.NewPCG(10, 5))
	for range 60 {
		x := movetree.New()
		for _, m := range mixed(r, grown(r, 1+r.IntN(60))) {
			x.Move(m.id, m.time, m.block, m.parent, m.key)
			isTree(t, x)
		}
	}
}

// isTree looks at all blocks of a tree, at their Paths, and at what lies under them.
func isTree(t *testing.T, x *movetree.Tree) {
	t.Helper()
	blocks := x.Blocks()
	under := map[api.Dot]int{}
	for _, p := range append([]api.Dot{root, trash}, blocks...) {
		for _, kid := range x.Kids(p) {
			if at, _, there := x.Parent(kid); at != p || !there {
				t.Fatalf("%v is among the Kids of %v, and lies under %v", kid, p, at)
			}
			under[kid]++
		}
	}
	for _, b := range blocks {
		path, seen, at := x.Path(b), map[api.Dot]bool{b: true}, b
		for _, up := range path {
			if p, _, there := x.Parent(at); p != up || !there || seen[up] {
				t.Fatalf("Path of %v is %v; %v lies under %v", b, path, at, p)
			}
			seen[up], at = true, up
		}
		if !x.There(b) || at != root && at != trash || under[b] != 1 {
			t.Fatalf("Path of %v is %v; it is a kid %d times", b, path, under[b])
		}
	}
	if len(under) != len(blocks) {
		t.Fatalf("%d blocks, %d of them kids", len(blocks), len(under))
	}
}

// P10.4: the latest move of a block that took effect says where it lies; a block of which none did isn't there.
func TestLatest(t *testing.T) {
	r := rand.New(rand.NewPCG(10, 6))
	for range 60 {
		l := grown(r, 1+r.IntN(80))
		x, s := of(t, mixed(r, l)...)
		for _, b := range append(x.Blocks(), blocksOf(l)...) {
			var last move
			for _, m := range l {
				later := m.time > last.time || m.time == last.time && (m.id.Act > last.id.Act || m.id.Act == last.id.Act && m.id.Seq > last.id.Seq)
				if m.block == b && x.Took(m.id) && (last.id == api.Dot{} || later) {
					last = m
				}
			}
			if p, key, there := x.Parent(b); p != last.parent || key != last.key || there != (last.id != api.Dot{}) {
				t.Fatalf("Parent of %v is %v, %q, %v; its latest move is %+v", b, p, key, there, last)
			}
		}
		check(t, "the latest", x, s)
	}
}

// blocksOf are the blocks of which there are moves.
func blocksOf(l []move) []api.Dot {
	var out []api.Dot
	for _, m := range l {
		out = append(out, m.block)
	}
	return out
}

// P10.1 to P10.4: any calls, held against the chapter's words.
func FuzzTree(f *testing.F) {
	f.Add([]byte("\x10\x01\x11\x02\x20\x02\x22\x01\x31\x03\x12\x12"))
	f.Add([]byte("abcdefghijklmnopqrstuvwxyz0123456789"))
	f.Fuzz(func(t *testing.T, l []byte) {
		near := func(n byte) api.Dot { return dot(int(n%3), int(n/3%7)-2) }
		x, s := movetree.New(), &slow{}
		for i := 0; i+3 < len(l) && i < 160; i += 4 {
			m := move{id: near(l[i]), time: int(l[i+1] % 16), block: near(l[i+2]), parent: near(l[i+3]), key: string(l[i+3] % 2 * 'n')}
			if l[i+1]&16 != 0 {
				m.block = m.id
			}
			if l[i+1]&32 != 0 {
				m.parent = root
			}
			tell(t, x, s, m)
			if l[i+1]&64 != 0 {
				check(t, "any calls, in between", x, s)
			}
		}
		check(t, "any calls", x, s)
		isTree(t, x)
	})
}
