package keys_test

import (
	"math"
	"slices"
	"testing"

	"osier/api"
	"osier/keys"
)

// checkRow looks for a row that is written out.
func checkRow(t *testing.T, a, b string, want ...string) {
	t.Helper()
	if row, e := keys.Row(a, b, len(want)); !slices.Equal(row, want) || e != api.OK {
		t.Errorf("Row(%q, %q, %d): %q, error %d, not %q", a, b, len(want), row, e, want)
	}
}

// checkNoRow looks for an error, and nothing beside it.
func checkNoRow(t *testing.T, a, b string, n int, want api.Errno) {
	t.Helper()
	if row, e := keys.Row(a, b, n); len(row) != 0 || e != want {
		t.Errorf("Row(%q, %q, %d): %q, error %d, not %d", a, b, n, row, e, want)
	}
}

// P6.3: rows written out.
func TestRowWrittenOut(t *testing.T) {
	checkRow(t, "", "")
	checkRow(t, "", "", "n")
	checkRow(t, "", "", "n", "t", "w")
	checkRow(t, "", "", "n", "t", "w", "y", "z", "zn", "zt", "zw", "zy", "zz", "zzn")
	checkRow(t, "n", "", "t", "w", "y")
	checkRow(t, "", "n", "g", "j", "l", "m", "mn", "mt")
	checkRow(t, "", "b", "an", "at", "aw", "ay", "az", "azn")
	checkRow(t, "b", "c", "bn", "bt", "bw", "by", "bz", "bzn")
	checkRow(t, "bz", "c", "bzn", "bzt")
	checkRow(t, "b", "bb", "ban", "bat", "baw", "bay", "baz", "bazn")
	checkRow(t, "b", "z", "n", "t", "w", "x", "y", "yn")
	checkRow(t, "b", "d", "c", "cn", "ct")
}

// P6.3: n beyond its bounds is ErrArg, ahead of all that may be said of a and b.
func TestRowBeyond(t *testing.T) {
	for _, n := range []int{math.MinInt, math.MinInt + 1, -1 << 32, -1<<32 + 1, -1001, -1000, -2, -1, 1001, 1002, 1024, 2000, 1 << 16, 1 << 32, 1<<32 + 1, 1<<62 + 3, math.MaxInt - 1, math.MaxInt} {
		for _, c := range [][2]string{{"", ""}, {"b", "c"}, {"n", ""}, {"", "n"}, {"c", "b"}, {"b", "b"}, {"a", ""}, {"", "a"}, {"{", "`"}, {of(200, "z", ""), ""}, {of(201, "b", ""), "c"}} {
			checkNoRow(t, c[0], c[1], n, api.ErrArg)
		}
	}
}

// P6.3: a row of none is ErrKey where its bounds aren't right, and not where no key would fit.
func TestRowOfNone(t *testing.T) {
	common := of(199, "m", "")
	for _, c := range [][2]string{{"", ""}, {"b", ""}, {"", "b"}, {"b", "c"}, {"b", "bb"}, {of(200, "z", ""), ""}, {"", of(199, "a", "b")}, {common + "b", common + "c"}, {common, common + "b"}} {
		checkNoRow(t, c[0], c[1], 0, api.OK)
	}
	for _, c := range [][2]string{{"b", "b"}, {"c", "b"}, {"bb", "b"}, {common + "c", common + "b"}, {of(200, "z", ""), "z"}} {
		checkNoRow(t, c[0], c[1], 0, api.ErrKey)
	}
	for _, s := range noKeys() {
		for _, k := range []string{"", "b", "z", of(200, "z", "")} {
			checkNoRow(t, s, k, 0, api.ErrKey)
			checkNoRow(t, k, s, 0, api.ErrKey)
		}
	}
}

// P6.3: rows whose bounds aren't right, of any length.
func TestRowNoKeys(t *testing.T) {
	for _, n := range []int{1, 2, 999, 1000} {
		for _, c := range [][2]string{{"b", "b"}, {"c", "b"}, {"bb", "b"}, {of(200, "z", ""), "z"}} {
			checkNoRow(t, c[0], c[1], n, api.ErrKey)
		}
		for _, s := range noKeys() {
			checkNoRow(t, s, "", n, api.ErrKey)
			checkNoRow(t, "", s, n, api.ErrKey)
			checkNoRow(t, "n", s, n, api.ErrKey)
			checkNoRow(t, s, "n", n, api.ErrKey)
		}
	}
}

// checkRises looks whether each key is Between of the one ahead of it and b, whether they rise, and whether the row has an error just where one of its keys has.
func checkRises(t *testing.T, a, b string, n int) {
	t.Helper()
	var want []string
	last := a
	for range n {
		k, e := keys.Between(last, b)
		if e != api.OK {
			checkNoRow(t, a, b, n, e)
			return
		}
		want = append(want, k)
		last = k
	}
	checkRow(t, a, b, want...)
	row, _ := keys.Row(a, b, n)
	last = a
	for i, k := range row {
		if !keys.May(k) || k <= last || b != "" && k >= b {
			t.Errorf("Row(%q, %q, %d): %q at %d, behind %q", a, b, n, k, i, last)
		}
		last = k
	}
}

// P6.3, P6.4: rows of each two of some texts.
func TestRowRises(t *testing.T) {
	all := append(texts("abmz", 3), of(200, "z", ""), of(199, "z", ""), of(150, "z", ""), of(199, "a", "b"), of(199, "m", "b"), of(199, "m", "z"))
	for _, a := range all {
		for _, b := range all {
			if b != "" && a >= b || a != "" && !keys.May(a) || b != "" && !keys.May(b) {
				continue
			}
			for _, n := range []int{1, 2, 7, 30} {
				checkRises(t, a, b, n)
			}
		}
	}
}

// P6.3: the longest rows, those that just fit and those that don't. A digit gives room for five keys, 200 of them for 1000.
func TestRowLongest(t *testing.T) {
	row, e := keys.Row("", "", 1000)
	if len(row) != 1000 || e != api.OK || row[999] != of(200, "z", "") || row[995] != of(199, "z", "n") || row[0] != "n" {
		t.Fatalf("Row of 1000: %d keys, error %d", len(row), e)
	}
	for _, n := range []int{999, 1000} {
		checkRises(t, "", "", n)
		checkRises(t, "n", "", n)
		checkRises(t, "b", "", n)
		checkRises(t, "", "n", n)
		checkRises(t, "b", "c", n)
	}
	if row, e := keys.Row("n", "", 999); len(row) != 999 || e != api.OK {
		t.Errorf("Row of 999 behind n: %d keys, error %d", len(row), e)
	}
	checkNoRow(t, "n", "", 1000, api.ErrKey)
	checkNoRow(t, "b", "c", 1000, api.ErrKey)
	if row, e := keys.Row("b", "c", 995); len(row) != 995 || e != api.OK || row[994] != "b"+of(199, "z", "") {
		t.Errorf("Row of 995 between b and c: %d keys, error %d", len(row), e)
	}
	checkNoRow(t, "b", "c", 996, api.ErrKey)
}

// P6.3: rows near MaxKey: what fits, and one more.
func TestRowFits(t *testing.T) {
	z199, common := of(199, "z", ""), of(199, "m", "")
	checkRow(t, z199, "", z199+"n", z199+"t", z199+"w", z199+"y", z199+"z")
	checkNoRow(t, z199, "", 6, api.ErrKey)
	checkRow(t, z199+"y", "", z199+"z")
	checkNoRow(t, z199+"y", "", 2, api.ErrKey)
	checkNoRow(t, z199+"z", "", 1, api.ErrKey)
	checkRow(t, common+"b", common+"d", common+"c")
	checkNoRow(t, common+"b", common+"d", 2, api.ErrKey)
	checkNoRow(t, common+"b", common+"c", 1, api.ErrKey)
	checkNoRow(t, "", of(199, "a", "b"), 1, api.ErrKey)
	checkRow(t, "", of(199, "a", "c"), of(199, "a", "b"))
	checkNoRow(t, "", of(199, "a", "c"), 2, api.ErrKey)
}

// P6.3: a row is new memory, up to its capacity.
func TestRowNewMemory(t *testing.T) {
	for _, n := range []int{1, 5, 1000} {
		one, _ := keys.Row("", "", n)
		other, _ := keys.Row("", "", n)
		kept := slices.Clone(other)
		for i := range one {
			one[i] = "changed"
		}
		_ = append(one[:0], make([]string, n)...)
		if !slices.Equal(other, kept) {
			t.Errorf("a row of %d shares memory with another one", n)
		}
		again, _ := keys.Row("", "", n)
		if !slices.Equal(again, kept) {
			t.Errorf("a row of %d is another one, once one was changed", n)
		}
	}
}
