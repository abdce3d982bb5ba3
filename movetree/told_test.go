package movetree_test

import (
	"fmt"
	"slices"
	"testing"

	"osier/api"
	"osier/movetree"
)

// hedge is a row of moves, in the order of their times: blocks that are made, moved about and back, thrown away and fetched again, and moves without an effect.
func hedge() []move {
	return []move{
		made(1, a, root, "n"), made(2, b, a, "n"), made(2, d, root, "c"), made(3, c, b, "n"), made(4, e, d, "n"), moved(5, 1, 4, c, b, ""),
		moved(5, 2, 5, a, c, "n"), moved(5, 3, 6, b, root, "a"), moved(5, 4, 7, a, c, "x"), moved(5, 5, 7, d, trash, "n"), moved(5, 6, 8, f, root, "n"),
		made(9, f, e, "n"), moved(5, 7, 9, e, e, "n"), moved(5, 8, 10, d, root, "c"), moved(6, 1, 10, b, f, "n"), moved(6, 2, 11, d, a, "n"),
	}
}

// P10.2: the chapter's example.
func TestExample(t *testing.T) {
	x, s := of(t, made(1, a, root, "n"), made(2, b, a, "n"), moved(1, 3, 3, a, b, "n"))
	checkTook(t, x, false, dot(1, 3))
	checkPath(t, x, a, root)
	checkPath(t, x, b, a, root)
	tell(t, x, s, moved(2, 1, 2, b, trash, "n"))
	checkTook(t, x, true, dot(1, 3), dot(2, 1))
	checkPath(t, x, a, b, trash)
	checkPath(t, x, b, trash)
	checkKids(t, x, root)
	check(t, "the example", x, s)
}

// P10.2: the document's example: each under the other one at once; the later one has no effect.
func TestAtOnce(t *testing.T) {
	one, other := moved(7, 1, 3, a, b, "n"), moved(8, 1, 3, b, a, "n")
	for _, l := range [][]move{{one, other}, {other, one}} {
		x, s := of(t, append([]move{made(1, a, root, "n"), made(2, b, root, "n")}, l...)...)
		checkTook(t, x, true, dot(7, 1))
		checkTook(t, x, false, dot(8, 1))
		checkPath(t, x, a, b, root)
		checkPath(t, x, b, root)
		check(t, "at once", x, s)
	}
}

// P10.2: of no moves; Root, Trash and Dot{} are no blocks, ever.
func TestNone(t *testing.T) {
	x, s := of(t)
	check(t, "no moves", x, s)
	for _, l := range [][]move{nil, {made(1, a, root, "n"), made(2, b, trash, "n"), made(3, c, api.Dot{}, "n")}} {
		x, s = of(t, l...)
		for _, no := range append(never(), c, dot(9, 9)) {
			checkPath(t, x, no)
			if p, key, there := x.Parent(no); p != (api.Dot{}) || key != "" || there || x.There(no) {
				t.Errorf("Parent of %v is %v, %q, %v", no, p, key, there)
			}
			checkTook(t, x, false, no)
		}
		checkKids(t, x, api.Dot{})
		check(t, "none", x, s)
	}
}

// P10.2: what comes of moves by hand, told in the order of their times, the other way round, and from the middle on.
func TestHedge(t *testing.T) {
	up := hedge()
	down := slices.Clone(up)
	slices.Reverse(down)
	for _, l := range [][]move{up, down, slices.Concat(up[8:], up[:8]), slices.Concat(down[8:], down[:8])} {
		x, s := of(t, l...)
		checkTook(t, x, true, a, b, c, d, e, f, dot(5, 1), dot(5, 3), dot(5, 4), dot(5, 5), dot(5, 8), dot(6, 1))
		checkTook(t, x, false, dot(5, 2), dot(5, 6), dot(5, 7), dot(6, 2), dot(7, 7))
		checkPath(t, x, a, c, b, f, e, d, root)
		checkKids(t, x, root, d)
		checkKids(t, x, trash)
		if p, key, there := x.Parent(c); p != b || key != "" || !there {
			t.Errorf("Parent of c is %v, %q, %v", p, key, there)
		}
		if p, key, there := x.Parent(d); p != root || key != "c" || !there {
			t.Errorf("Parent of d is %v, %q, %v", p, key, there)
		}
		if got := x.Blocks(); !slices.Equal(got, []api.Dot{a, b, c, d, e, f}) {
			t.Errorf("Blocks are %v", got)
		}
		check(t, "the hedge", x, s)
	}
}

// P10.2: that, with a look at all of it behind each move, and behind some.
func TestLookBetween(t *testing.T) {
	l := hedge()
	for step := range len(l) {
		for _, every := range []int{1, 2, 5} {
			x, s := of(t)
			for i := range l {
				// There are 16 moves, and 17 is prime: each step goes through all of them, in an order of its own.
				m := l[(i+1)*(step+1)%(len(l)+1)-1]
				tell(t, x, s, m)
				if i%every == 0 {
					check(t, "looked at in between", x, s)
				}
			}
			check(t, "looked at in between, and at the end", x, s)
		}
	}
}

// P10.2: moves of one time are done by their ids, whether these are those of blocks that are made or not.
func TestOneTime(t *testing.T) {
	l := []move{made(4, dot(2, 2), root, "n"), moved(2, 10, 4, dot(2, 2), trash, "n"), moved(1, 99, 4, dot(2, 2), trash, "n"), moved(10, 1, 4, dot(2, 2), root, "m"), moved(2, 1, 4, dot(2, 2), trash, "n")}
	for _, o := range orders(l) {
		x, s := of(t, o...)
		checkTook(t, x, true, dot(2, 2), dot(2, 10), dot(10, 1))
		checkTook(t, x, false, dot(1, 99), dot(2, 1))
		if p, key, there := x.Parent(dot(2, 2)); p != root || key != "m" || !there {
			t.Fatalf("Parent is %v, %q, %v", p, key, there)
		}
		check(t, "of one time", x, s)
	}
}

// P10.2: times count ahead of ids, and are held against each other as numbers, also where they lie far apart.
func TestTimes(t *testing.T) {
	for _, times := range [][2]int{{1, 2}, {-2, -1}, {-1, 0}, {9, 10}, {-1 << 63, 1<<63 - 1}, {-1 << 63, 0}, {-2, 1<<63 - 1}, {1<<32 + 1, 1<<33 + 0}} {
		for _, turned := range []bool{false, true} {
			l := []move{made(times[0], dot(9, 9), root, "n"), moved(1, 1, times[1], dot(9, 9), trash, "m")}
			if turned {
				slices.Reverse(l)
			}
			x, s := of(t, l...)
			checkTook(t, x, true, dot(9, 9), dot(1, 1))
			checkPath(t, x, dot(9, 9), trash)
			check(t, "by times", x, s)
		}
	}
}

// P10.2: a parent that isn't there when the move comes in its turn, though it is later on, or Dot{}.
func TestNoParent(t *testing.T) {
	l := []move{made(1, a, b, "n"), made(2, b, root, "n"), made(3, c, b, "n"), moved(9, 1, 2, c, b, "n"), moved(9, 2, 4, c, a, "x"), moved(9, 3, 5, c, api.Dot{}, "y"), made(6, d, a, "n"), made(6, e, e, "n")}
	for _, turned := range []bool{false, true} {
		if turned {
			slices.Reverse(l)
		}
		x, s := of(t, l...)
		checkTook(t, x, true, b, c)
		checkTook(t, x, false, a, d, e, dot(9, 1), dot(9, 2), dot(9, 3))
		checkPath(t, x, c, b, root)
		for _, no := range []api.Dot{a, d, e} {
			checkPath(t, x, no)
			checkKids(t, x, no)
		}
		checkKids(t, x, api.Dot{})
		check(t, "without a parent", x, s)
	}
}

// P10.2: a block that isn't there yet is made by the move whose id it is, and by no other one.
func TestNoBlock(t *testing.T) {
	x, s := of(t, moved(9, 1, 1, a, root, "n"))
	checkTook(t, x, false, dot(9, 1))
	checkPath(t, x, a)
	checkPath(t, x, dot(9, 1))
	tell(t, x, s, made(2, a, root, "m"))
	checkTook(t, x, false, dot(9, 1))
	checkPath(t, x, a, root)
	tell(t, x, s, moved(9, 2, 2, a, trash, "n"))
	checkPath(t, x, a, trash)
	checkPath(t, x, dot(9, 2))
	check(t, "made", x, s)
	// Its making comes to nothing, so that all that follow on it do.
	x, s = of(t, made(1, a, f, "n"), moved(9, 1, 2, a, root, "n"), made(3, b, a, "n"), moved(9, 2, 4, b, root, "n"))
	checkTook(t, x, false, a, b, dot(9, 1), dot(9, 2))
	if got := x.Blocks(); len(got) != 0 {
		t.Errorf("Blocks are %v", got)
	}
	check(t, "not made", x, s)
}

// P10.2: a block under itself, under one that lies at once under it, and under one further down; beside it, and further up, it may go.
func TestCycle(t *testing.T) {
	chain := []move{made(1, a, root, "n"), made(2, b, a, "n"), made(3, c, b, "n"), made(4, d, c, "n"), made(5, e, a, "m"), made(6, f, trash, "n")}
	for _, y := range []struct {
		block, parent api.Dot
		took          bool
	}{
		{a, a, false}, {a, b, false}, {a, c, false}, {a, d, false}, {a, e, false}, {b, b, false}, {b, c, false}, {b, d, false}, {d, d, false},
		{b, e, true}, {b, a, true}, {b, root, true}, {d, a, true}, {d, b, true}, {d, e, true}, {e, d, true}, {c, e, true},
		{a, root, true}, {a, trash, true}, {d, trash, true}, {a, f, true}, {f, d, true}, {f, f, false}, {f, root, true},
	} {
		x, s := of(t, append(chain, moved(9, 1, 9, y.block, y.parent, "z"))...)
		checkTook(t, x, y.took, dot(9, 1))
		if p, key, _ := x.Parent(y.block); (p == y.parent && key == "z") != y.took {
			t.Errorf("%v lies under %v with %q", y.block, p, key)
		}
		check(t, "a cycle", x, s)
	}
}

// P10.2: under Trash, and under what lies in the Trash, blocks lie as they do elsewhere; what lies under them comes along, there and back.
func TestTrash(t *testing.T) {
	x, s := of(t, made(1, a, root, "n"), made(2, b, a, "n"), made(3, c, trash, "n"), moved(9, 1, 4, a, c, "n"))
	checkPath(t, x, b, a, c, trash)
	checkKids(t, x, root)
	checkKids(t, x, trash, c)
	checkTook(t, x, true, c, dot(9, 1))
	tell(t, x, s, moved(9, 2, 5, c, b, "n"))
	checkTook(t, x, false, dot(9, 2))
	tell(t, x, s, made(6, d, b, "n"))
	tell(t, x, s, moved(9, 3, 7, b, trash, "m"))
	checkPath(t, x, d, b, trash)
	checkKids(t, x, trash, b, c)
	tell(t, x, s, moved(9, 4, 8, c, root, "n"))
	checkPath(t, x, a, c, root)
	checkKids(t, x, trash, b)
	check(t, "the trash", x, s)
}

// P10.2: blocks under one stand by their keys, and of one key by dots.Less, in whatever order they came.
func TestKids(t *testing.T) {
	l := []move{made(2, dot(2, 1), c, "b"), made(2, dot(10, 1), c, "b"), made(2, dot(2, 10), c, "b"), made(2, dot(9, 9), c, ""), made(2, dot(1, 7), c, "bb"), made(2, dot(1, 5), c, "a")}
	for _, top := range []api.Dot{root, trash, c} {
		for _, o := range orders(l) {
			o = slices.Clone(o)
			for i := range o {
				o[i].parent = top
			}
			x, _ := of(t, append([]move{made(1, c, root, "zz")}, o...)...)
			want := row(9, 9, 1, 5, 2, 1, 2, 10, 10, 1, 1, 7)
			if top == root {
				want = append(want, c)
			}
			if got := x.Kids(top); !slices.Equal(got, want) {
				t.Fatalf("Kids of %v are %v, not %v", top, got, want)
			}
		}
	}
}

// P10.2: keys are in order as texts are, byte by byte, whether they may be keys or not; of one empty or long key by dots.Less.
func TestKeys(t *testing.T) {
	keys := []string{"", "\x00", "\x00\x00", "\n", " ", "A", "Z", "a", "a\x00", "aa", "ab", "b", "z", "zz", "\x7f", "\x80", "é", "\xff", "\xff\xff"}
	x, s := of(t, made(1, a, root, "n"))
	var want []api.Dot
	for i, key := range keys {
		low, high := dot(100-i, 5), dot(100-i, 6)
		tell(t, x, s, made(2, high, a, key))
		tell(t, x, s, made(2, low, a, key))
		want = append(want, low, high)
	}
	checkKids(t, x, a, want...)
	check(t, "keys", x, s)
}

// P10.2: a block that is moved with another key under the same parent stands elsewhere, and with the same key where it stood.
func TestRekey(t *testing.T) {
	x, s := of(t, made(1, a, root, "b"), made(1, b, root, "d"), made(1, c, root, "f"))
	checkKids(t, x, root, a, b, c)
	for i, y := range []struct {
		key  string
		want []api.Dot
	}{{"a", []api.Dot{b, a, c}}, {"g", []api.Dot{a, c, b}}, {"g", []api.Dot{a, c, b}}, {"e", []api.Dot{a, b, c}}, {"b", []api.Dot{a, b, c}}, {"", []api.Dot{b, a, c}}, {"f", []api.Dot{a, b, c}}} {
		tell(t, x, s, moved(9, i+1, 2+i, b, root, y.key))
		checkTook(t, x, true, dot(9, i+1))
		checkKids(t, x, root, y.want...)
		check(t, "another key", x, s)
	}
	// One that comes late is done ahead of these, and isn't to be seen.
	tell(t, x, s, moved(8, 1, 2, b, root, "z"))
	tell(t, x, s, moved(8, 2, 1, b, trash, "z"))
	checkKids(t, x, root, a, b, c)
	check(t, "another key late", x, s)
}

// P10.2: moves that took effect and don't any more once an earlier one came, and the other way round, again and again.
func TestTookNoMore(t *testing.T) {
	x, s := of(t, made(1, a, root, "n"), made(2, b, root, "n"), moved(9, 1, 10, a, b, "x"))
	checkTook(t, x, true, dot(9, 1))
	for i, y := range []struct {
		m    move
		took bool
	}{
		{moved(8, 1, 9, b, a, "n"), false}, {moved(8, 2, 8, b, trash, "n"), false}, {moved(7, 1, 9, a, b, "n"), true}, {moved(7, 2, 8, b, a, "n"), true},
		{moved(6, 1, 8, b, a, "n"), true}, {moved(9, 9, 9, a, root, "n"), true},
	} {
		tell(t, x, s, y.m)
		check(t, fmt.Sprint("earlier moves, up to ", i), x, s)
		checkTook(t, x, y.took, dot(9, 1))
	}
}

// P10.2: a making that took effect and doesn't any more takes with it all that leans on it; and comes back.
func TestMadeNoMore(t *testing.T) {
	// f is made under b at the time 5 as long as b is there then.
	x, s := of(t, made(3, a, root, "n"), made(4, b, a, "n"), made(5, f, b, "n"), moved(9, 1, 6, f, a, "m"), moved(9, 2, 7, a, trash, "n"))
	checkPath(t, x, f, a, trash)
	// These have ids that are below those of the makings, and the same times: they come ahead of them.
	tell(t, x, s, moved(1, 0, 3, a, trash, "n"))
	tell(t, x, s, moved(0, 9, 5, f, root, "n"))
	checkTook(t, x, false, dot(1, 0), dot(0, 9))
	check(t, "ahead of the making", x, s)
	y, z := of(t, made(5, f, b, "n"), moved(9, 1, 6, f, root, "n"), made(7, c, f, "n"))
	checkTook(t, y, false, f, c, dot(9, 1))
	checkKids(t, y, root)
	tell(t, y, z, made(4, b, a, "n"))
	checkTook(t, y, false, f, c, b, dot(9, 1))
	tell(t, y, z, made(3, a, trash, "n"))
	checkTook(t, y, true, f, c, b, a, dot(9, 1))
	checkPath(t, y, c, f, root)
	check(t, "made in the end", y, z)
}

// P10.2: what is told is new memory: whoever changes it changes neither the tree nor what was told before.
func TestNewMemory(t *testing.T) {
	l := append(hedge(), made(12, dot(4, 1), root, "a"), made(12, dot(4, 2), root, "b"), made(12, dot(4, 3), root, "z"))
	x, s := of(t, l...)
	kids, path, blocks := x.Kids(root), x.Path(a), x.Blocks()
	for range 2 {
		for _, l := range [][]api.Dot{kids, path, blocks} {
			spoil(l)
		}
		check(t, "behind a change of what it told", x, s)
		kids, path, blocks = x.Kids(root), x.Path(a), x.Blocks()
	}
	before := [][]api.Dot{slices.Clone(kids), slices.Clone(path), slices.Clone(blocks)}
	for _, m := range []move{moved(7, 1, 13, dot(4, 1), trash, "n"), made(13, dot(4, 0), root, "0"), moved(7, 2, 13, c, root, "n"), moved(7, 3, 0, a, root, "n")} {
		tell(t, x, s, m)
		check(t, "behind a change of the tree", x, s)
	}
	for i, l := range [][]api.Dot{kids, path, blocks} {
		if !slices.Equal(l, before[i]) {
			t.Errorf("what was told changed with the tree: %v, not %v", l, before[i])
		}
	}
}

// spoil changes all of a row of dots, and the room behind it.
func spoil(l []api.Dot) {
	l = l[:cap(l)]
	for i := range l {
		l[i] = dot(-99, i)
	}
}

// P10.2: looking changes nothing: the same calls have the same answers, on another tree of the same moves, too.
func TestLooking(t *testing.T) {
	x, s := of(t, hedge()...)
	y, _ := of(t, hedge()...)
	for range 3 {
		check(t, "looked at", x, s)
	}
	check(t, "looked at once", y, s)
}

// P10.2: blocks that lie one under the other as deep as may be, with moves that come late, and of the topmost one under the lowest one.
func TestDeep(t *testing.T) {
	const deep = 1 << 16
	x := movetree.New()
	var want []api.Dot
	above := root
	for i := range deep {
		id := dot(1, i+1)
		if e := x.Move(id, i+1, id, above, "n"); e != api.OK {
			t.Fatalf("Move of %v: error %d", id, e)
		}
		want = append(want, above)
		above = id
	}
	slices.Reverse(want)
	x.Move(dot(2, 1), deep+1, dot(1, 1), dot(1, deep), "n")
	x.Move(dot(2, 2), deep+1, dot(1, 2), dot(1, deep), "n")
	checkTook(t, x, false, dot(2, 1), dot(2, 2))
	checkPath(t, x, dot(1, deep), want...)
	if got := x.Blocks(); len(got) != deep || got[deep-1] != dot(1, deep) {
		t.Errorf("%d deep: %d blocks", deep, len(got))
	}
	// The second one lies in the Trash from the beginning on, so that the first one can go under the lowest one.
	x.Move(dot(2, 0), 2, dot(1, 2), trash, "n")
	checkTook(t, x, true, dot(2, 0), dot(2, 1))
	checkTook(t, x, false, dot(2, 2))
	checkPath(t, x, dot(1, 1), slices.Concat(row(1, deep), want[:deep-2], []api.Dot{trash})...)
}

// P10.2: as many moves as a document has, told the other way round.
func TestMany(t *testing.T) {
	const many = api.MaxOps
	x := movetree.New()
	var want []api.Dot
	for i := many; i > 0; i-- {
		id := dot(1, i)
		if e := x.Move(id, i, id, root, "n"); e != api.OK {
			t.Fatalf("Move of %v: error %d", id, e)
		}
		want = append(want, id)
	}
	slices.Reverse(want)
	if !slices.Equal(x.Kids(root), want) || !slices.Equal(x.Blocks(), want) {
		t.Errorf("%d kids, %d blocks", len(x.Kids(root)), len(x.Blocks()))
	}
}
