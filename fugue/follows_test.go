package fugue_test

import (
	"math/rand/v2"
	"slices"
	"strings"
	"testing"

	"osier/api"
	"osier/fugue"
)

// behind tells whether in a row each character comes behind the one under which it lies.
func behind(l []put) bool {
	there := map[api.Dot]int{{}: 1}
	for _, p := range l {
		if there[p.at] == 0 {
			return false
		}
		there[p.id] = 1
	}
	return true
}

// P9.5: the order is the same for every order in which characters come that has each behind the one under which it lies.
func TestEveryOrder(t *testing.T) {
	for _, l := range [][]put{
		{first(1, 1, 'a'), right(1, 2, 1, 1, 'b'), right(2, 1, 1, 1, 'c'), left(1, 3, 1, 2, 'd'), left(2, 2, 1, 2, 'e'), first(3, 1, 'f'), left(3, 2, 1, 1, 'g')},
		{first(2, 1, 'a'), first(1, 1, 'b'), first(1, 2, 'c'), left(3, 1, 2, 1, 'd'), left(4, 1, 2, 1, 'e'), right(3, 2, 2, 1, 'f'), right(4, 2, 2, 1, 'g')},
		{first(1, 1, 'a'), left(2, 1, 1, 1, 'b'), right(3, 1, 2, 1, 'c'), left(4, 1, 3, 1, 'd'), right(1, 2, 2, 1, 'e'), left(1, 3, 3, 1, 'f'), left(0, 1, 1, 1, 'g')},
	} {
		_, s := of(t, l...)
		n := 0
		for _, o := range orders(l) {
			if !behind(o) {
				continue
			}
			n++
			x, _ := of(t, o...)
			check(t, "in another order", x, s)
		}
		if n < 20 {
			t.Errorf("there are but %d orders", n)
		}
	}
}

// grown is a text's characters, come about one under another by chance, with identities in no order.
func grown(r *rand.Rand, n int) []put {
	var l []put
	for i := range n {
		p := put{id: dot(r.IntN(4), 1+i), side: api.Right, char: 'a' + i%26}
		if i > 0 && r.IntN(8) > 0 {
			p.at, p.side = l[r.IntN(i)].id, r.IntN(2)
		}
		l = append(l, p)
	}
	return l
}

// mixed is a row in another order, by chance, that has each character behind the one under which it lies.
func mixed(r *rand.Rand, l []put) []put {
	there := map[api.Dot]int{{}: 1}
	l = slices.Clone(l)
	var out []put
	for len(l) > 0 {
		at := r.IntN(len(l))
		if there[l[at].at] == 1 {
			there[l[at].id] = 1
			out = append(out, l[at])
			l = slices.Delete(l, at, at+1)
		}
	}
	return out
}

// P9.5: that, of greater texts; and what is taken out of sight in between changes no order.
func TestGrown(t *testing.T) {
	r := rand.New(rand.NewPCG(9, 5))
	for range 60 {
		l := grown(r, 1+r.IntN(60))
		_, s := of(t, l...)
		gone := mixed(r, l)[:r.IntN(len(l))]
		for _, p := range gone {
			s.remove(p.id)
		}
		for range 4 {
			x := fugue.New()
			for _, p := range mixed(r, l) {
				x.Insert(p.id, p.at, p.side, p.char)
				if slices.Contains(gone, p) && r.IntN(2) == 0 {
					x.Delete(p.id)
				}
			}
			for _, p := range gone {
				x.Delete(p.id)
			}
			check(t, "grown", x, s)
		}
	}
}

// P9.5: those that are there stay in their order, wherever one is put in, and whatever is taken out of sight.
func TestStay(t *testing.T) {
	r := rand.New(rand.NewPCG(9, 6))
	for range 60 {
		x := fugue.New()
		for _, p := range mixed(r, grown(r, 1+r.IntN(80))) {
			before := x.All()
			if e := x.Insert(p.id, p.at, p.side, p.char); e != api.OK {
				t.Fatalf("Insert of %+v: error %d", p, e)
			}
			without := slices.DeleteFunc(x.All(), func(d api.Dot) bool { return d == p.id })
			if !slices.Equal(without, before) || x.Size() != len(before)+1 {
				t.Fatalf("%v behind Insert of %+v, and ahead of it %v", x.All(), p, before)
			}
			if r.IntN(4) == 0 {
				all := x.All()
				x.Delete(all[r.IntN(len(all))])
				if !slices.Equal(x.All(), all) {
					t.Fatalf("%v behind Delete, and ahead of it %v", x.All(), all)
				}
			}
		}
	}
}

// written puts a character in at Place of an index, and looks that it stands there.
func written(t *testing.T, x *fugue.Text, index int, id api.Dot, char int) put {
	t.Helper()
	before := x.Dots()
	at, side, e := x.Place(index)
	if e != api.OK {
		t.Fatalf("Place(%d) of %q: error %d", index, x, e)
	}
	if e := x.Insert(id, at, side, char); e != api.OK {
		t.Fatalf("Insert at Place(%d) of %q: error %d", index, x, e)
	}
	if got, want := x.Dots(), slices.Insert(before, index, id); !slices.Equal(got, want) {
		t.Fatalf("put in at Place(%d): %v, not %v", index, got, want)
	}
	if n, there := x.Index(id); n != index || !there {
		t.Fatalf("put in at Place(%d): Index is %d, %v", index, n, there)
	}
	return put{id: id, at: at, side: side, char: char}
}

// P9.5: a character that is put in at Place(index) is the index-th one that is seen: in every text of the bush with some taken out, at every index.
func TestPlacedIsThere(t *testing.T) {
	r := rand.New(rand.NewPCG(9, 7))
	for range 40 {
		l := mixed(r, bush())
		gone := mixed(r, l)[:r.IntN(len(l)+1)]
		for index := range len(l) - len(gone) + 1 {
			for _, id := range row(0, 7, 3, 3, 99, 1) {
				x, s := of(t, l...)
				for _, p := range gone {
					remove(t, x, s, p.id)
				}
				s.insert(written(t, x, index, id, '!'))
				check(t, "placed", x, s)
			}
		}
	}
}

// P9.5: a text that is written at any places, with some taken out of sight: what it is comes to what a plain row of chars does.
func TestWriting(t *testing.T) {
	r := rand.New(rand.NewPCG(9, 8))
	for range 40 {
		x := fugue.New()
		var plain []int
		for i := range 150 {
			index := r.IntN(len(plain) + 1)
			if index < len(plain) && r.IntN(3) == 0 {
				x.Delete(x.Dots()[index])
				plain = slices.Delete(plain, index, index+1)
			} else {
				written(t, x, index, dot(r.IntN(3), i+1), i)
				plain = slices.Insert(plain, index, i)
			}
			if !slices.Equal(x.Chars(), plain) {
				t.Fatalf("%v, not %v", x.Chars(), plain)
			}
		}
	}
}

// Q2: what one writes at one place stands in one piece, though others write there at the same time: on and on, and backwards.
func TestOnePiece(t *testing.T) {
	base := []put{first(1, 1, '('), right(1, 2, 1, 1, ')')}
	for index := range len(base) + 1 {
		for _, step := range []int{0, 1} {
			var all []put
			for act, word := range []string{"aaaa", "bbbb", "cccc"} {
				x, _ := of(t, base...)
				for i, c := range word {
					all = append(all, written(t, x, index+i*step, dot(act+2, i+1), int(c)))
				}
			}
			x, s := of(t, slices.Concat(base, all)...)
			check(t, "in one piece", x, s)
			for _, word := range []string{"aaaa", "bbbb", "cccc"} {
				if !strings.Contains(x.String(), word) {
					t.Errorf("%q at %d, step %d: %q is in pieces", x, index, step, word)
				}
			}
		}
	}
}

// P9.1 to P9.5: any calls, held against the chapter's words.
func FuzzText(f *testing.F) {
	f.Add([]byte("\x01\x01\x00\x01\x02\x12\x01\x01\x33\x21\x02\x00"))
	f.Add([]byte("abcdefghijklmnopqrstuvwxyz0123456789"))
	f.Fuzz(func(t *testing.T, b []byte) {
		x, s := fugue.New(), &slow{}
		near := func(n byte) api.Dot { return dot(int(n%3), int(n/3%5)) }
		for i := 0; i+2 < len(b) && i < 120; i += 3 {
			switch n := b[i]; {
			case n%8 == 0:
				remove(t, x, s, near(b[i+1]))
			case n%8 < 4:
				at, side, e := x.Place(int(b[i+1]))
				if e == api.OK {
					insert(t, x, s, put{id: near(b[i+2]), at: at, side: side, char: i})
				}
			default:
				insert(t, x, s, put{id: near(b[i+1]), at: near(b[i+2]), side: int(n>>4)%3 - int(n>>7), char: i})
			}
		}
		check(t, "any calls", x, s)
	})
}
