package keys_test

import (
	"strings"
	"testing"

	"osier/api"
	"osier/keys"
)

// checkKey looks for a key that is written out.
func checkKey(t *testing.T, a, b, want string) {
	t.Helper()
	if k, e := keys.Between(a, b); k != want || e != api.OK {
		t.Errorf("Between(%q, %q): %q, error %d, not %q", a, b, k, e, want)
	}
}

// checkNoKey looks for ErrKey, and nothing beside it.
func checkNoKey(t *testing.T, a, b string) {
	t.Helper()
	if k, e := keys.Between(a, b); k != "" || e != api.ErrKey {
		t.Errorf("Between(%q, %q): %q, error %d", a, b, k, e)
	}
}

// P6.2: keys written out.
func TestBetweenWrittenOut(t *testing.T) {
	for _, c := range []struct{ a, b, want string }{
		// Nothing and nothing, nothing and a key, a key and nothing.
		{"", "", "n"},
		{"", "n", "g"},
		{"", "z", "m"},
		{"", "d", "b"},
		{"", "c", "b"},
		{"", "b", "an"},
		{"", "bz", "an"},
		{"", "ab", "aan"},
		{"", "ac", "ab"},
		{"", "az", "am"},
		{"", "aab", "aaan"},
		{"", "aaz", "aam"},
		{"n", "", "t"},
		{"t", "", "w"},
		{"w", "", "y"},
		{"x", "", "y"},
		{"y", "", "z"},
		{"z", "", "zn"},
		{"zn", "", "zt"},
		{"zy", "", "zz"},
		{"zz", "", "zzn"},
		{"b", "", "n"},
		{"ab", "", "n"},
		{"nz", "", "t"},
		{"yz", "", "z"},
		// Digits that are two apart and more.
		{"b", "d", "c"},
		{"b", "e", "c"},
		{"b", "f", "d"},
		{"b", "z", "n"},
		{"bz", "dz", "c"},
		{"x", "z", "y"},
		{"bb", "bd", "bc"},
		{"bbz", "bdb", "bc"},
		{"ab", "z", "m"},
		// One apart: a's digits bound what follows, b's don't.
		{"b", "c", "bn"},
		{"b", "cz", "bn"},
		{"bn", "c", "bt"},
		{"by", "c", "bz"},
		{"bz", "c", "bzn"},
		{"bzz", "c", "bzzn"},
		{"bzy", "c", "bzz"},
		{"bzb", "cab", "bzn"},
		{"y", "z", "yn"},
		{"yz", "z", "yzn"},
		{"bb", "bc", "bbn"},
		{"bbz", "bcz", "bbzn"},
		{"ab", "b", "an"},
		{"az", "b", "azn"},
		// One apart, and then one apart again: the bound stays away.
		{"bb", "cc", "bn"},
		{"by", "cz", "bz"},
		{"bz", "cab", "bzn"},
		{"bc", "cb", "bo"},
		// The one key is the beginning of the other one.
		{"b", "bb", "ban"},
		{"b", "bc", "bb"},
		{"b", "bz", "bm"},
		{"b", "bab", "baan"},
		{"b", "bac", "bab"},
		{"b", "baaz", "baam"},
		{"b", "bbb", "ban"},
		{"bz", "bzb", "bzan"},
		{"n", "nn", "ng"},
		{"z", "zz", "zm"},
		{"z", "zb", "zan"},
		{"zz", "zzab", "zzaan"},
		// b's digits behind the common ones are 0 for long.
		{"", of(20, "a", "b"), of(21, "a", "n")},
		{"", of(20, "a", "c"), of(20, "a", "b")},
		{"n", "n" + of(20, "a", "b"), "n" + of(21, "a", "n")},
		{"n", "n" + of(20, "a", "z"), "n" + of(20, "a", "m")},
		{"m" + of(20, "z", ""), "n", "m" + of(20, "z", "n")},
		{"m" + of(20, "z", ""), "n" + of(20, "a", "b"), "m" + of(20, "z", "n")},
		// a has digits 0.
		{"bab", "bb", "ban"},
		{"bab", "c", "bn"},
		{"bab", "bad", "bac"},
		{"bab", "bac", "babn"},
		{"baab", "bab", "baan"},
	} {
		checkKey(t, c.a, c.b, c.want)
	}
}

// P6.2: a equal to b, or behind it.
func TestBetweenOrder(t *testing.T) {
	for _, c := range [][2]string{
		{"b", "b"}, {"z", "z"}, {"ban", "ban"}, {of(200, "b", ""), of(200, "b", "")},
		{"c", "b"}, {"z", "b"}, {"bb", "b"}, {"bab", "b"}, {"c", "bz"}, {"bc", "bb"}, {"b", "az"}, {"b", "ab"}, {"zz", "z"},
		{"b" + of(198, "a", "b"), "b"}, {of(199, "b", "c"), of(200, "b", "")}, {"b", of(199, "a", "b")},
	} {
		checkNoKey(t, c[0], c[1])
	}
}

// P6.2: one of both, or both, are neither keys nor empty, wherever they lie.
func TestBetweenNoKeys(t *testing.T) {
	for _, s := range noKeys() {
		for _, k := range []string{"", "b", "n", "z", "ab", "zz", of(200, "b", ""), of(199, "a", "b"), of(200, "z", "")} {
			checkNoKey(t, s, k)
			checkNoKey(t, k, s)
		}
		for _, u := range noKeys() {
			checkNoKey(t, s, u)
		}
	}
}

// P6.2: keys whose third one has just MaxKey bytes, and such whose third one would have more.
func TestBetweenLongest(t *testing.T) {
	z199, z200 := of(199, "z", ""), of(200, "z", "")
	a199 := of(199, "a", "")
	common := of(199, "m", "")
	for _, c := range []struct{ a, b, want string }{
		{z199, "", z199 + "n"},
		{z199 + "n", "", z199 + "t"},
		{z199 + "y", "", z200},
		{of(198, "z", "y"), "", z199},
		{"", a199 + "c", a199 + "b"},
		{"", a199 + "z", a199 + "m"},
		{"", of(198, "a", "b"), a199 + "n"},
		{common + "b", common + "d", common + "c"},
		{common + "x", common + "z", common + "y"},
		{common, common + "c", common + "b"},
		{"b" + of(198, "z", ""), "c", "b" + of(198, "z", "n")},
		{"b" + of(198, "z", "y"), "c", "b" + of(199, "z", "")},
		{"b" + of(198, "z", "y"), "c" + of(198, "a", "b"), "b" + of(199, "z", "")},
		{"b", "b" + of(198, "a", "c"), "b" + of(198, "a", "b")},
		{"b" + of(198, "a", "b"), "c", "bn"},
		{of(200, "b", ""), of(200, "d", ""), "c"},
	} {
		checkKey(t, c.a, c.b, c.want)
	}
	for _, c := range [][2]string{
		{z200, ""},
		{"", a199 + "b"},
		{common + "b", common + "c"},
		{common + "y", common + "z"},
		{common, common + "b"},
		{"b" + of(199, "z", ""), "c"},
		{"b" + of(199, "z", ""), "c" + of(198, "a", "b")},
		{"b" + of(199, "z", ""), "c" + of(199, "z", "")},
		{"b", "b" + of(198, "a", "b")},
		{of(198, "m", "b") + "z", of(198, "m", "c") + "b"},
	} {
		checkNoKey(t, c[0], c[1])
	}
}

// split is what is common to a and b, where 0 is behind a's end, and what is left of both.
func split(a, b string) (common, low, high string) {
	n := 0
	for n < len(b) && (n < len(a) && a[n] == b[n] || n >= len(a) && b[n] == 'a') {
		n++
	}
	return b[:n], a[min(n, len(a)):], b[n:]
}

// third is the key between two that are in order, told from their common beginning rather than digit by digit; it may be too long.
func third(a, b string) string {
	common, low, high := split(a, b)
	if b == "" {
		return up(a)
	}
	x := byte('a')
	if low != "" {
		x, low = low[0], low[1:]
	}
	if high[0]-x > 1 {
		return common + string(rune('a'+(int(x)+int(high[0])-2*'a')/2))
	}
	return common + string(rune(x)) + up(low)
}

// up is the key above a, which is halfway to the end where a's letters are no more `z`.
func up(a string) string {
	rest := strings.TrimLeft(a, "z")
	zs := a[:len(a)-len(rest)]
	x := 0
	if rest != "" {
		x = int(rest[0] - 'a')
	}
	return zs + string(rune('a'+(x+26)/2))
}

// checkThird looks at what is between two texts, and at what P6.4 says of it.
func checkThird(t *testing.T, a, b string) {
	t.Helper()
	if a != "" && !keys.May(a) || b != "" && !keys.May(b) || a != "" && b != "" && a >= b {
		checkNoKey(t, a, b)
		return
	}
	want := third(a, b)
	if len(want) > api.MaxKey {
		checkNoKey(t, a, b)
		return
	}
	checkKey(t, a, b, want)
	k, _ := keys.Between(a, b)
	if !keys.May(k) || k <= a || b != "" && k >= b {
		t.Errorf("Between(%q, %q): %q is no key, or not between", a, b, k)
	}
}

// texts are all texts of at most so many of these letters, the empty one among them.
func texts(letters string, n int) []string {
	all := []string{""}
	from := 0
	for range n {
		to := len(all)
		for _, s := range all[from:to] {
			for _, c := range letters {
				all = append(all, s+string(c))
			}
		}
		from = to
	}
	return all
}

// P6.2, P6.4: each two of all texts of few letters, those that aren't keys among them.
func TestBetweenAll(t *testing.T) {
	for _, all := range [][]string{texts("abcdefghijklmnopqrstuvwxyz", 2), texts("abcyz", 4), texts("abz", 5), texts("`aB{b", 3)} {
		for _, a := range all {
			for _, b := range all {
				checkThird(t, a, b)
			}
		}
	}
}

// P6.2, P6.4: long keys that are near each other, up to MaxKey and beyond.
func TestBetweenLong(t *testing.T) {
	ends := texts("abyz", 3)
	for _, n := range []int{190, 196, 197, 198, 199, 200, 201} {
		for _, c := range []string{"a", "b", "m", "z"} {
			begin := of(n, c, "")
			for _, a := range ends {
				checkThird(t, begin+a, "")
				checkThird(t, "", begin+a)
				for _, b := range ends {
					checkThird(t, begin+a, begin+b)
				}
			}
		}
	}
	for n := range 200 {
		for m := range 200 {
			checkThird(t, "b"+of(n, "z", ""), "c"+of(m, "a", "b"))
			checkThird(t, "b"+of(n, "a", "b"), "b"+of(m, "a", "c"))
		}
	}
}

// P6.4: going ever nearer to a, or to b, or to one and then the other, up to where nothing fits any more.
func TestBetweenNearer(t *testing.T) {
	for _, start := range [][2]string{{"", ""}, {"b", "c"}, {"b", "bb"}, {"n", ""}, {"", "b"}, {"mz", "n"}} {
		for turn := range 4 {
			a, b := start[0], start[1]
			n := 0
			for ; n <= 2000; n++ {
				checkThird(t, a, b)
				k, e := keys.Between(a, b)
				if e != api.OK {
					break
				}
				if turn == 0 || turn > 1 && n%turn == 0 {
					a = k
				} else {
					b = k
				}
			}
			if n < 190 || n > 2000 {
				t.Errorf("%v, turn %d: %d keys", start, turn, n)
			}
		}
	}
}

// Rule 4: the same call has the same answer, whatever was asked between.
func TestBetweenAgain(t *testing.T) {
	for range 3 {
		checkKey(t, "b", "bb", "ban")
		checkKey(t, of(199, "z", "y"), "", of(200, "z", ""))
		checkNoKey(t, of(200, "z", ""), "")
		checkKey(t, "", "", "n")
		checkNoKey(t, "a", "b")
	}
}

// P6.2, P6.4: any two texts, as they are and with their bytes made letters.
func FuzzBetween(f *testing.F) {
	f.Add("", "")
	f.Add("b", "bb")
	f.Add(of(200, "z", ""), "{")
	letters := func(s string) string {
		b := []byte(s)
		for i := range b {
			b[i] = 'a' + b[i]%26
		}
		return string(b)
	}
	f.Fuzz(func(t *testing.T, a, b string) {
		checkThird(t, a, b)
		checkThird(t, letters(a), letters(b))
		checkThird(t, letters(a), letters(a+b))
	})
}
