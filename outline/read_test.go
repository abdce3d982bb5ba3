package outline_test

import (
	"maps"
	"math/rand/v2"
	"slices"
	"strings"
	"testing"

	"osier/api"
	"osier/outline"
)

// P11.3: of the empty text no lines.
func TestReadNone(t *testing.T) {
	checkRead(t, "")
}

// P11.3: lines at right Depths: one deeper at most, and up by any number of steps.
func TestReadDepths(t *testing.T) {
	checkRead(t, "- a\n", line(0, "a"))
	checkRead(t, "- a\n- b\n", line(0, "a"), line(0, "b"))
	checkRead(t, "- a\n  - b\n- \n", line(0, "a"), line(1, "b"), line(0, ""))
	checkRead(t, "- a\n  - b\n    - c\n      - d\n  - e\n    - f\n    - g\n- h\n",
		line(0, "a"), line(1, "b"), line(2, "c"), line(3, "d"), line(1, "e"), line(2, "f"), line(2, "g"), line(0, "h"))
}

// P11.3: a first line whose Depth isn't 0.
func TestReadFirst(t *testing.T) {
	for _, s := range []string{"  - y\n", "    - y\n", "  - \n", "  - a\n- b\n", "  - a\n  - b\n", "  - a\n    - b\n"} {
		checkNone(t, s)
	}
}

// P11.3: a line that is two or more deeper than the one ahead, wherever it stands.
func TestReadTooDeep(t *testing.T) {
	for _, s := range []string{
		"- a\n    - b\n", "- a\n      - b\n", "- \n    - \n", "- a\n  - b\n      - c\n", "- a\n  - b\n- c\n    - d\n",
		"- a\n  - b\n    - c\n  - d\n      - e\n", "- a\n    - b\n- c\n", "- a\n" + strings.Repeat(" ", 1<<17) + "- b\n",
	} {
		checkNone(t, s)
	}
}

// P11.3: an odd number of blanks.
func TestReadOdd(t *testing.T) {
	for _, s := range []string{" - a\n", "- a\n - b\n", "- a\n   - b\n", "- a\n  - b\n   - c\n", "- a\n  - b\n     - c\n", "- a\n - b\n- c\n"} {
		checkNone(t, s)
	}
}

// P11.3: a line without `- `.
func TestReadNoMark(t *testing.T) {
	for _, s := range []string{
		"\n", "-\n", "a\n", "-a\n", " \n", "  \n", "\n\n", "-\ta\n", "* a\n", "\t- a\n", "\r- a\n", "\u00a0- a\n", "–  a\n", "\xff- a\n", "\x00- a\n",
		"- a\n\n", "\n- a\n", "- a\n\n- b\n", "- a\n  \n", "- a\n  -\n", "- a\n  b\n", "- a\n\t- b\n", "- a\n  \t- b\n", "- a\n -  b\n", "- a\n-\n- b\n",
		`\- a` + "\n", `\n- a` + "\n",
	} {
		checkNone(t, s)
	}
}

// P11.3: no byte but blanks may stand ahead of the mark, not even as many of them as there may be blanks. (Byte 10 ends a line, and `-` may be the mark's own.)
func TestReadNoBlanks(t *testing.T) {
	for c := range 256 {
		if c == ' ' || c == '\n' || c == '-' {
			continue
		}
		s := string([]byte{byte(c)})
		for _, ahead := range []string{s, s + s, s + " ", " " + s, "  " + s, "  " + s + s} {
			checkNone(t, "- a\n"+ahead+"- b\n")
			checkNone(t, ahead+"- b\n")
		}
	}
	for _, ahead := range []string{"\u00a0", "\u2003", "\u3000", "\ufeff"} {
		checkNone(t, "- a\n"+ahead+"- b\n")
	}
}

// P11.3: a line without a byte 10 at its end.
func TestReadNoEnd(t *testing.T) {
	for _, s := range []string{"-", "- ", "- a", " ", "  ", "a", "- a\n- b", "- a\n-", "- a\n ", "- a\n  ", "- a\n  - ", "- a\n  - b", "- a\r", "- a\\n", "- a\x00", "\\"} {
		checkNone(t, s)
	}
}

// P11.3: `\` ahead of anything but `\` and `n`, and at a line's end.
func TestReadEscapes(t *testing.T) {
	for c := range 256 {
		s := "- a\\" + string([]byte{byte(c)}) + "b\n"
		switch c {
		case '\\':
			checkRead(t, s, line(0, `a\b`))
		case 'n':
			checkRead(t, s, line(0, "a\nb"))
		default:
			checkNone(t, s)
			checkNone(t, "- x\n  - y\n"+s+"- z\n")
		}
	}
	for _, s := range []string{"- a\\\n", "- \\\n", "- a\\\\\\\n", "- \\n\\\n", "- a\\\n- b\n", "- a\n  - b\\\n", "- a\\", "- a\\\\\\ \n", "- \\\\\\N\n"} {
		checkNone(t, s)
	}
}

// P11.3: the texts, with all bytes but `\` and byte 10 as they are.
func TestReadTexts(t *testing.T) {
	for _, c := range []struct{ shown, text string }{
		{"", ""}, {`\\`, `\`}, {`\n`, "\n"}, {`\\n`, `\n`}, {`\\\n`, "\\\n"}, {`\n\\`, "\n\\"}, {`\\\\n`, `\\n`}, {`\n\n`, "\n\n"}, {`nn\nn`, "nn\nn"},
		{" ", " "}, {"  a", "  a"}, {" - a", " - a"}, {"- ", "- "}, {"- - a", "- - a"}, {"a  ", "a  "}, {"-", "-"}, {"\r", "\r"}, {"\x00\t\v\f\x7f", "\x00\t\v\f\x7f"},
		{"ä日\U0010ffff\ufffd", "ä日\U0010ffff\ufffd"}, {"\u0085\u2028\u2029", "\u0085\u2028\u2029"}, {"\xff\xfe", "\xff\xfe"}, {"\xc3\\\\\xa4\\n\x80", "\xc3\\\xa4\n\x80"},
		{"\xed\xa0\x80", "\xed\xa0\x80"},
	} {
		checkRead(t, "- "+c.shown+"\n", line(0, c.text))
		checkRead(t, "- "+c.shown+"\n  - "+c.shown+"\n", line(0, c.text), line(1, c.text))
	}
}

// P11.3: the Blocks are empty, and with ErrForm nothing is told, also where lines ahead are right.
func TestReadAnswers(t *testing.T) {
	l, e := outline.Read("- a\n  - b\n")
	if len(l) != 2 || e != api.OK || l[0].Block != (api.Dot{}) || l[1].Block != (api.Dot{}) {
		t.Errorf("%v, %d", l, e)
	}
	for _, last := range []string{"      - x\n", "   - x\n", "x\n", "\n", "- x", "- \\x\n", "- x\\\n"} {
		if l, e := outline.Read("- a\n  - b\n" + last); len(l) != 0 || e != api.ErrForm {
			t.Errorf("with %q behind: %v, %d", last, l, e)
		}
	}
}

// P11.3: what is told is new memory.
func TestReadNewMemory(t *testing.T) {
	const s = "- a\n  - b\n"
	first, _ := outline.Read(s)
	second, _ := outline.Read(s)
	first[0], first[1] = line(7, "changed"), line(8, "changed")
	if !slices.Equal(second, []api.Line{line(0, "a"), line(1, "b")}) {
		t.Errorf("another answer is %v", second)
	}
	checkRead(t, s, line(0, "a"), line(1, "b"))
}

// letters are those of which a shown text's form is made.
const letters = " -\\n\n"

// shortTexts are all texts of these letters that take at most so many bytes as they are shown, in a line of Depth 0.
func shortTexts(most int) []string {
	out := []string{""}
	for i := 0; i < len(out); i++ {
		for _, c := range letters {
			if s := out[i] + string(c); len(slowShow([]api.Line{line(0, s)})) <= most {
				out = append(out, s)
			}
		}
	}
	return out
}

// shortRows are all rows of lines at right Depths that take at most so many bytes as they are shown, by what they are shown as.
func shortRows(most int) map[string][]api.Line {
	all := shortTexts(most)
	out, last := map[string][]api.Line{}, map[string][]api.Line{"": nil}
	for len(last) > 0 {
		maps.Copy(out, last)
		next := map[string][]api.Line{}
		for s, l := range last {
			deepest := 0
			if len(l) > 0 {
				deepest = l[len(l)-1].Depth + 1
			}
			for depth := range deepest + 1 {
				for _, text := range all {
					x := line(depth, text)
					if u := s + slowShow([]api.Line{x}); len(u) <= most {
						next[u] = append(slices.Clone(l), x)
					}
				}
			}
		}
		last = next
	}
	return out
}

// P11.3: all texts of up to 9 bytes of these letters: those as which lines are shown, and all others.
func TestReadShort(t *testing.T) {
	const most = 9
	rows := shortRows(most)
	found := 0
	var longer func(s string)
	longer = func(s string) {
		l, e := outline.Read(s)
		want, right := rows[s]
		if right {
			found++
		}
		if right != (e == api.OK) || !right && e != api.ErrForm || !slices.Equal(l, want) {
			t.Fatalf("Read of %q is %v, %d, not %v", s, l, e, want)
		}
		if len(s) < most {
			for _, c := range letters {
				longer(s + string(c))
			}
		}
	}
	longer("")
	if found != len(rows) || rows["- \n  - n\n"] == nil {
		t.Errorf("%d of %d rows came", found, len(rows))
	}
}

// P11.3: right texts with a few bytes put in, taken out and changed.
func TestReadTorn(t *testing.T) {
	const s = "- a\\n\n  - b\\\\\n    - \n  - - c\n-   d\n"
	r := rand.New(rand.NewPCG(11, 3))
	right, wrong := 0, 0
	for range 50000 {
		torn := []byte(s)
		for range r.IntN(4) {
			from := r.IntN(len(torn))
			to := min(len(torn), from+r.IntN(3))
			put := make([]byte, r.IntN(3))
			for i := range put {
				put[i] = "  -\\n\na\xff"[r.IntN(8)]
			}
			torn = slices.Replace(torn, from, to, put...)
		}
		want, wantError := slowRead(string(torn))
		if l, e := outline.Read(string(torn)); !slices.Equal(l, want) || e != wantError {
			t.Fatalf("Read of %q is %v, %d, not %v, %d", torn, l, e, want, wantError)
		}
		if wantError == api.OK {
			right++
		} else {
			wrong++
		}
	}
	if right < 1000 || wrong < 1000 {
		t.Errorf("%d were right, %d wrong", right, wrong)
	}
}
