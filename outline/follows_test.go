package outline_test

import (
	"math/rand/v2"
	"slices"
	"testing"

	"osier/api"
	"osier/outline"
)

// P11.4: what Under answers is read again as it is shown, but for the Blocks, under each top.
func TestReadAgain(t *testing.T) {
	r := rand.New(rand.NewPCG(11, 4))
	lines := 0
	for range 400 {
		x, l := grown(t, r, r.IntN(60))
		for _, top := range append(tops(), x.Blocks()...) {
			under := outline.Under(x, l, top)
			checkRead(t, outline.Show(under), without(under)...)
			lines += len(under)
		}
	}
	if lines < 10000 {
		t.Errorf("there were but %d lines", lines)
	}
}

// P11.4: that, with texts of each char up to 300, of each two of some, and of some that are no code points.
func TestReadAgainTexts(t *testing.T) {
	some := []int{-1, 0, 9, 10, 11, 13, 32, 45, 92, 110, 0x85, 0x2028, 55296, 65533, api.MaxChar, api.MaxChar + 1}
	x := tree(t, at{a, root, "n"}, at{b, a, "n"}, at{c, root, "z"})
	for char := range 301 {
		for _, next := range some {
			under := outline.Under(x, texts{a: text(t, char), b: text(t, char, next), c: text(t, next, next, char)}, root)
			checkRead(t, outline.Show(under), without(under)...)
		}
	}
}

// P11.4: that, of trees by hand, under each top.
func TestReadAgainTops(t *testing.T) {
	x, l := hedge(t), texts{a: word(t, "- a\n"), b: word(t, `\n`), d: word(t, "  - "), f: word(t, "")}
	for _, top := range append(tops(), a, b, c, d, e, f) {
		under := outline.Under(x, l, top)
		checkRead(t, outline.Show(under), without(under)...)
	}
	checkRead(t, outline.Show(outline.Under(x, l, root)), line(0, ""), line(1, `\n`), line(2, ""), line(0, "- a\n"))
}

// P11.2, P11.3: any text, held against what a line looks like; what is read is shown as it was.
func FuzzRead(f *testing.F) {
	for _, s := range []string{"", "- a\n  - b\n- \n", "  - y\n", "- a\\\n", "- a", "- \\n\\\\\n", "- \xff\n", "- a\n    - b\n", "- a\n - b\n", "- \x00\r\n"} {
		f.Add(s)
	}
	f.Fuzz(func(t *testing.T, s string) {
		want, wantError := slowRead(s)
		l, e := outline.Read(s)
		if !slices.Equal(l, want) || e != wantError {
			t.Fatalf("Read of %q is %v, %d, not %v, %d", s, l, e, want, wantError)
		}
		if e == api.OK {
			checkShow(t, s, l...)
		}
	})
}

// P11.2: any line, held against the chapter's words.
func FuzzShow(f *testing.F) {
	f.Add(0, "a", 1, "\\\n")
	f.Add(-1, "", 300, "\xff- ")
	f.Fuzz(func(t *testing.T, depth int, text string, next int, behind string) {
		l := []api.Line{line(depth%5000, text), line(next%5000, behind)}
		checkShow(t, slowShow(l), l...)
	})
}
