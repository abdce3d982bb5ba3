package fugue_test

import (
	"math"
	"slices"
	"testing"

	"osier/api"
	"osier/fugue"
)

// P9.2: the chapter's example.
func TestExample(t *testing.T) {
	x, s := of(t, first(1, 1, 'a'), right(1, 2, 1, 1, 'b'), right(2, 1, 1, 1, 'c'))
	if x.String() != "abc" {
		t.Errorf("%q", x.String())
	}
	if at, side, e := x.Place(1); at != dot(1, 2) || side != api.Left || e != api.OK {
		t.Errorf("Place(1) is %v, %d, %d", at, side, e)
	}
	insert(t, x, s, left(1, 3, 1, 2, 'd'))
	if x.String() != "adbc" {
		t.Errorf("%q", x.String())
	}
	check(t, "the example", x, s)
}

// P9.2: characters at both sides of the root's ones and of others, in an order that was worked out by hand.
func TestOrder(t *testing.T) {
	x, s := of(t, bush()...)
	if got, want := x.String(), "abcdefghijklmnopqrst"; got != want {
		t.Errorf("%q, not %q", got, want)
	}
	want := row(0, 2, 0, 1, 4, 1, 4, 2, 4, 3, 1, 5, 5, 6, 5, 5, 5, 7, 1, 1, 9, 1, 1, 7, 2, 1, 1, 2, 1, 3, 0, 8, 2, 9, 6, 2, 6, 1, 3, 1)
	if !slices.Equal(x.All(), want) || !slices.Equal(x.Dots(), want) {
		t.Errorf("All is %v, Dots %v, not %v", x.All(), x.Dots(), want)
	}
	check(t, "the bush", x, s)
}

// P9.2: those that aren't seen any more are told by All and Size alone; Index of one of them is how many seen ones are ahead of it.
func TestTaken(t *testing.T) {
	x, s := of(t, bush()...)
	for _, d := range row(0, 2, 1, 5, 5, 6, 2, 1, 1, 7, 3, 1) {
		remove(t, x, s, d)
	}
	if got, want := x.String(), "bcdehijknopqrs"; got != want {
		t.Errorf("%q, not %q", got, want)
	}
	if x.Len() != 14 || x.Size() != 20 || len(x.All()) != 20 || len(x.Dots()) != 14 || len(x.Chars()) != 14 {
		t.Errorf("%d of %d", x.Len(), x.Size())
	}
	for d, want := range map[api.Dot]int{dot(0, 2): 0, dot(0, 1): 0, dot(1, 5): 4, dot(5, 6): 4, dot(5, 5): 4, dot(5, 7): 5, dot(3, 1): 14, dot(6, 1): 13} {
		if n, there := x.Index(d); n != want || !there {
			t.Errorf("Index of %v is %d, %v", d, n, there)
		}
	}
	check(t, "with some that aren't seen", x, s)
}

// P9.2: several at one side stand in the order of dots.Less, in whatever order they came.
func TestSide(t *testing.T) {
	l := []put{right(1, 2, 5, 5, 'b'), right(1, 10, 5, 5, 'c'), right(2, 1, 5, 5, 'd'), right(10, 1, 5, 5, 'e'), right(1, 1, 5, 5, 'a')}
	turn := func(l []put, side int) []put {
		l = slices.Clone(l)
		for i := range l {
			l[i].side = side
		}
		return l
	}
	for _, o := range orders(l) {
		x, s := of(t, append([]put{first(5, 5, '.')}, o...)...)
		if x.String() != ".abcde" {
			t.Fatalf("%q right", x.String())
		}
		check(t, "right", x, s)
		x, s = of(t, append([]put{first(5, 5, '.')}, turn(o, api.Left)...)...)
		if x.String() != "abcde." {
			t.Fatalf("%q left", x.String())
		}
		check(t, "left", x, s)
		for i := range o {
			o[i].at = api.Dot{}
		}
		x, s = of(t, o...)
		if x.String() != "abcde" {
			t.Fatalf("%q at the root", x.String())
		}
		check(t, "at the root", x, s)
	}
}

// orders are all orders of a row.
func orders(l []put) [][]put {
	if len(l) == 0 {
		return [][]put{nil}
	}
	var out [][]put
	for i := range l {
		for _, rest := range orders(slices.Concat(l[:i], l[i+1:])) {
			out = append(out, append([]put{l[i]}, rest...))
		}
	}
	return out
}

// P9.2: Chars tells what was put in; String those that are no code points, and those from 55296 to 57343, as U+FFFD.
func TestChars(t *testing.T) {
	for _, c := range []struct {
		char int
		want string
	}{
		{0, "\x00"}, {10, "\n"}, {'a', "a"}, {127, "\x7f"}, {128, "\xc2\x80"}, {255, "\xc3\xbf"}, {2047, "\xdf\xbf"}, {2048, "\xe0\xa0\x80"},
		{55295, "\xed\x9f\xbf"}, {55296, "\xef\xbf\xbd"}, {56000, "\xef\xbf\xbd"}, {57343, "\xef\xbf\xbd"}, {57344, "\xee\x80\x80"},
		{65533, "\xef\xbf\xbd"}, {65535, "\xef\xbf\xbf"}, {65536, "\xf0\x90\x80\x80"}, {1114111, "\xf4\x8f\xbf\xbf"}, {1114112, "\xef\xbf\xbd"},
		{-1, "\xef\xbf\xbd"}, {-97, "\xef\xbf\xbd"}, {math.MinInt, "\xef\xbf\xbd"}, {math.MaxInt, "\xef\xbf\xbd"}, {math.MinInt32, "\xef\xbf\xbd"}, {math.MaxInt32, "\xef\xbf\xbd"},
		{1<<32 + 'a', "\xef\xbf\xbd"}, {-1<<32 + 'a', "\xef\xbf\xbd"}, {1 << 32, "\xef\xbf\xbd"}, {math.MinInt + 'a', "\xef\xbf\xbd"},
	} {
		x, s := of(t, first(1, 1, '<'), first(1, 2, c.char), first(1, 3, '>'))
		if got := x.String(); got != "<"+c.want+">" {
			t.Errorf("String of %d is %q, not %q", c.char, got, "<"+c.want+">")
		}
		if got := x.Chars(); !slices.Equal(got, []int{'<', c.char, '>'}) {
			t.Errorf("Chars of %d is %v", c.char, got)
		}
		check(t, "chars", x, s)
	}
}

// P9.2: what is told is new memory: whoever changes it changes neither the text nor what was told before.
func TestNewMemory(t *testing.T) {
	x, s := of(t, bush()...)
	remove(t, x, s, dot(1, 7))
	all, seen, codes := x.All(), x.Dots(), x.Chars()
	for range 2 {
		spoil(all)
		spoil(seen)
		codes = codes[:cap(codes)]
		for i := range codes {
			codes[i] = -9
		}
		check(t, "behind a change of what it told", x, s)
		all, seen, codes = x.All(), x.Dots(), x.Chars()
	}
	before, beforeSeen, beforeCodes := slices.Clone(all), slices.Clone(seen), slices.Clone(codes)
	insert(t, x, s, left(20, 1, 0, 2, 'X'))
	remove(t, x, s, dot(2, 1))
	check(t, "behind a change of the text", x, s)
	if !slices.Equal(all, before) || !slices.Equal(seen, beforeSeen) || !slices.Equal(codes, beforeCodes) {
		t.Errorf("what was told changed with the text")
	}
}

// spoil changes all of a row of dots, and the room behind it.
func spoil(l []api.Dot) {
	l = l[:cap(l)]
	for i := range l {
		l[i] = dot(-99, i)
	}
}

// P9.2: looking changes nothing: the same calls have the same answers, on another text of the same characters, too.
func TestLooking(t *testing.T) {
	x, s := of(t, bush()...)
	remove(t, x, s, dot(5, 5))
	y, _ := of(t, bush()...)
	y.Delete(dot(5, 5))
	for range 3 {
		check(t, "looked at", x, s)
	}
	check(t, "looked at once", y, s)
}

// P9.1 to P9.3: characters that lie one under the other as deep as may be: at the right sides, at the left ones, by turns.
func TestDeep(t *testing.T) {
	const deep = 1 << 16
	for _, side := range []func(i int) int{
		func(int) int { return api.Right },
		func(int) int { return api.Left },
		func(i int) int { return i % 2 },
		func(i int) int { return i / 100 % 2 },
	} {
		x := fugue.New()
		var heads, tails []api.Dot
		for i := range deep {
			id, above, at := dot(1, i+1), dot(1, i), side(i)
			if i == 0 {
				above, at = api.Dot{}, api.Right
			}
			if e := x.Insert(id, above, at, 'a'+i%26); e != api.OK {
				t.Fatalf("Insert of %v: error %d", id, e)
			}
			// What lies under this one comes all ahead of it, or all behind it.
			if side(i+1) == api.Right {
				heads = append(heads, id)
			} else {
				tails = append(tails, id)
			}
		}
		slices.Reverse(tails)
		if want := append(heads, tails...); !slices.Equal(x.All(), want) || !slices.Equal(x.Dots(), want) {
			t.Fatalf("%d deep: another order", deep)
		}
		if x.Len() != deep || x.Size() != deep || len(x.String()) != deep || len(x.Chars()) != deep {
			t.Fatalf("%d deep: %d of %d", deep, x.Len(), x.Size())
		}
		if _, _, e := x.Place(deep); e != api.OK {
			t.Fatalf("%d deep: error %d", deep, e)
		}
		if n, there := x.Index(dot(1, deep)); !there || n >= deep {
			t.Fatalf("%d deep: Index is %d, %v", deep, n, there)
		}
	}
}
