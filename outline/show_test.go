package outline_test

import (
	"math"
	"math/rand/v2"
	"slices"
	"strings"
	"testing"

	"osier/api"
	"osier/outline"
)

// P11.2: no lines.
func TestShowNone(t *testing.T) {
	checkShow(t, "")
	if s := outline.Show([]api.Line{}); s != "" {
		t.Errorf("Show of no lines is %q", s)
	}
}

// P11.2: twice as many blanks as the Depth says, none, if it is below 0; in any order.
func TestShowDepths(t *testing.T) {
	checkShow(t, "- x\n", line(0, "x"))
	checkShow(t, "  - x\n", line(1, "x"))
	checkShow(t, "      - x\n", line(3, "x"))
	for _, depth := range []int{-1, -2, -1 << 31, -1 << 32, math.MinInt + 1, math.MinInt} {
		checkShow(t, "- x\n", line(depth, "x"))
	}
	checkShow(t, "    - a\n- b\n  - c\n          - d\n- e\n- f\n", line(2, "a"), line(0, "b"), line(1, "c"), line(5, "d"), line(-7, "e"), line(0, "f"))
	checkShow(t, strings.Repeat(" ", 200000)+"- x\n", line(100000, "x"))
}

// P11.2: each line has a mark and an end of its own, also one without a text.
func TestShowEmpty(t *testing.T) {
	checkShow(t, "- \n", line(0, ""))
	checkShow(t, "- \n- \n  - \n", line(0, ""), line(0, ""), line(1, ""))
}

// P11.2: `\` and byte 10 are shown by two bytes each, all else as it is.
func TestShowTexts(t *testing.T) {
	for _, c := range []struct{ text, shown string }{
		{`\`, `\\`},
		{`\\`, `\\\\`},
		{"\n", `\n`},
		{"\n\n", `\n\n`},
		{`\n`, `\\n`},
		{"\\\n", `\\\n`},
		{"\n\\", `\n\\`},
		{"\n\\n", `\n\\n`},
		{`a\b` + "\nc", `a\\b\nc`},
		{`n`, `n`},
		{" ", " "},
		{"  - y", "  - y"},
		{"- ", "- "},
		{"- - ", "- - "},
		{"a  ", "a  "},
		{"\r\n", "\r" + `\n`},
		{"\x00\t\v\f\r\x7f", "\x00\t\v\f\r\x7f"},
		{"ä日\U0010ffff\ufffd", "ä日\U0010ffff\ufffd"},
		{"\u0085\u2028\u2029", "\u0085\u2028\u2029"},
		{"\xff\xfe", "\xff\xfe"},
		{"\xc3\\\xa4\n\x80", "\xc3\\\\\xa4\\n\x80"},
		{"\xed\xa0\x80", "\xed\xa0\x80"},
		{`"'/<>&`, `"'/<>&`},
	} {
		checkShow(t, "- "+c.shown+"\n", line(0, c.text))
		checkShow(t, "    - "+c.shown+"\n- "+c.shown+"\n", line(2, c.text), line(-1, c.text))
	}
}

// P11.2: each byte by itself, and each two of them.
func TestShowBytes(t *testing.T) {
	for x := range 256 {
		for y := range 256 {
			l := []api.Line{line(0, string([]byte{byte(x)})), line(1, string([]byte{byte(x), byte(y)}))}
			checkShow(t, slowShow(l), l...)
		}
	}
}

// P11.2: Blocks are not shown.
func TestShowBlocks(t *testing.T) {
	for _, block := range append(tops(), a, b) {
		checkShow(t, "  - x\n", api.Line{Block: block, Depth: 1, Text: "x"})
	}
}

// P11.2: what is handed in isn't changed.
func TestShowKeeps(t *testing.T) {
	l := []api.Line{{Block: a, Depth: -1, Text: "a\\\n"}, {Block: b, Depth: 2}}
	was := slices.Clone(l)
	outline.Show(l)
	if !slices.Equal(l, was) {
		t.Errorf("lines are %v, and were %v", l, was)
	}
}

// P11.2: lines by chance.
func TestShowGrown(t *testing.T) {
	r := rand.New(rand.NewPCG(11, 2))
	for range 2000 {
		var l []api.Line
		for range r.IntN(8) {
			text := make([]byte, r.IntN(8))
			for i := range text {
				text[i] = "\\\nn -a\xff\xc3"[r.IntN(8)]
			}
			l = append(l, api.Line{Block: dot(r.IntN(3), r.IntN(3)), Depth: r.IntN(12) - 4, Text: string(text)})
		}
		checkShow(t, slowShow(l), l...)
	}
}

// A Depth for which there is no room: some answer, and no panic.
func TestShowNoRoom(t *testing.T) {
	for _, depth := range []int{1 << 30, 1 << 31, 1 << 40, 1 << 62, 1<<62 + 1, math.MaxInt/2 + 1, math.MaxInt - 1, math.MaxInt} {
		outline.Show([]api.Line{line(0, "a"), line(depth, "b"), line(1, "c")})
	}
}
