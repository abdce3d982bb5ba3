package edits_test

import (
	"math"
	"slices"
	"strings"
	"testing"

	"osier/api"
	"osier/edits"
	"osier/fugue"
)

// wrongChars are numbers that may not be an Insert's Char.
func wrongChars() []int {
	return []int{-1, math.MinInt, math.MinInt32, 55296, 56000, 57343, api.MaxChar + 1, math.MaxInt32, math.MaxInt, 1<<32 + 'a', -1<<32 + 'a'}
}

// P14.2: ErrArg, ahead of all others.
func TestWriteNil(t *testing.T) {
	for _, f := range []call{writing(b, 0, 'a'), writing(b, 0), writing(dot(9, 9), 5, -1), writing(b, -1, make([]int, 2000)...)} {
		checkNil(t, "Write", f)
	}
}

// P14.2: ErrBlock of a block that isn't there; ahead of the others, also where nothing is to be written, and where there is a text of what is no block.
func TestWriteBlock(t *testing.T) {
	d := of(t, append(garden(), put(1, 12, 120, h, none, 'y', 1, 11))...)
	clk := tick(t, 7, 0, 0)
	for _, no := range notThere() {
		for _, f := range []call{writing(no, 0), writing(no, 0, 'a'), writing(no, -1, 'a'), writing(no, 0, -1), writing(no, 0, make([]int, api.MaxText+1)...)} {
			checkRefused(t, "no block", d, clk, f, api.ErrBlock)
		}
	}
}

// P14.2: ErrLimit of more than MaxText chars; ahead of ErrForm and ErrIndex.
func TestWriteLimit(t *testing.T) {
	d, clk := grow(t)
	long := text(strings.Repeat("é", api.MaxText+1))
	wrong := slices.Concat(long, wrongChars())
	for _, index := range []int{0, 2, 3, -1, math.MaxInt} {
		checkRefused(t, "too long", d, clk, writing(b, index, long...), api.ErrLimit)
		checkRefused(t, "too long, and wrong", d, clk, writing(b, index, wrong...), api.ErrLimit)
	}
	got, e := edits.Write(d, clk, b, 1, long[1:])
	if e != api.OK || len(got) != api.MaxText {
		t.Errorf("MaxText chars: %d, error %d", len(got), e)
	}
	checkText(t, d, b, "h"+strings.Repeat("é", api.MaxText)+"i")
}

// P14.2: ErrForm of one that may not be an Insert's Char, wherever it stands; ahead of ErrIndex.
func TestWriteForm(t *testing.T) {
	d, clk := grow(t)
	for _, no := range wrongChars() {
		for _, chars := range [][]int{{no}, {no, 'a'}, {'a', no}, {'a', no, 'b'}} {
			for _, index := range []int{0, 2, 3, -1, math.MaxInt} {
				checkRefused(t, "no char", d, clk, writing(b, index, chars...), api.ErrForm)
			}
		}
	}
}

// P14.2: ErrIndex of an index that isn't 0 to the text's Len, which counts those that are seen; of a block without a text that is 0. Ahead of what may be wrong with the row.
func TestWriteIndex(t *testing.T) {
	d, clk := grow(t)
	wrong := tick(t, 7, 3, 0)
	for _, block := range []api.Dot{a, b, w, v} {
		length := len(d.State().Text(block))
		for _, index := range []int{-1, math.MinInt, length + 1, length + 2, math.MaxInt} {
			checkRefused(t, "no index", d, clk, writing(block, index, 'a'), api.ErrIndex)
			checkRefused(t, "no index, and no chars", d, clk, writing(block, index), api.ErrIndex)
			checkRefused(t, "no index, by a clock that may not be", d, wrong, writing(block, index, 'a'), api.ErrIndex)
		}
	}
	checkRefused(t, "a row", d, wrong, writing(b, 0, 'a'), api.ErrArg)
	checkRefused(t, "a row of none", d, wrong, writing(b, 0), api.ErrArg)
}

// inserted is an Insert into a block.
func inserted(block, at api.Dot, side, char int) api.Op {
	return api.Op{Kind: api.Insert, Block: block, At: at, Side: side, Char: char}
}

// P14.2: none, one and many, at 0, within and at the end, into a text of which one isn't seen.
func TestWrite(t *testing.T) {
	one, two := dot(7, 1), dot(7, 2)
	for _, y := range []struct {
		index int
		chars string
		want  []api.Op
		shown string
	}{
		{0, "", nil, "hi"},
		{2, "", nil, "hi"},
		{0, "a", []api.Op{inserted(b, h, api.Left, 'a')}, "ahi"},
		{1, "a", []api.Op{inserted(b, x, api.Left, 'a')}, "hai"},
		{2, "a", []api.Op{inserted(b, i, api.Right, 'a')}, "hia"},
		{0, "acé", []api.Op{inserted(b, h, api.Left, 'a'), inserted(b, one, api.Right, 'c'), inserted(b, two, api.Right, 'é')}, "acéhi"},
		{1, "acé", []api.Op{inserted(b, x, api.Left, 'a'), inserted(b, one, api.Right, 'c'), inserted(b, two, api.Right, 'é')}, "hacéi"},
		{2, "ac\n", []api.Op{inserted(b, i, api.Right, 'a'), inserted(b, one, api.Right, 'c'), inserted(b, two, api.Right, '\n')}, "hiac\n"},
	} {
		d, clk := grow(t)
		checkIssued(t, y.shown, d, clk, writing(b, y.index, text(y.chars)...), y.want...)
		checkText(t, d, b, y.shown)
	}
}

// P14.2: into blocks without a text, wherever they lie.
func TestWriteFirst(t *testing.T) {
	for _, block := range []api.Dot{a, c, k, l, w, v} {
		d, clk := grow(t)
		checkIssued(t, "none", d, clk, writing(block, 0))
		checkText(t, d, block, "")
		checkIssued(t, "the first ones", d, clk, writing(block, 0, 'o', 'n'), inserted(block, none, api.Right, 'o'), inserted(block, dot(7, 1), api.Right, 'n'))
		checkIssued(t, "ahead of them", d, clk, writing(block, 0, 'n'), inserted(block, dot(7, 1), api.Left, 'n'))
		checkIssued(t, "behind the first one", d, clk, writing(block, 1, '-'), inserted(block, dot(7, 3), api.Right, '-'))
		checkText(t, d, block, "n-on")
	}
}

// P14.2: the least and the greatest chars, and those beside the ones that may not be.
func TestWriteChars(t *testing.T) {
	d, clk := grow(t)
	chars := []int{0, 1, 127, 128, 55295, 57344, 65533, 65536, api.MaxChar}
	if _, e := edits.Write(d, clk, a, 0, chars); e != api.OK {
		t.Fatalf("Write: error %d", e)
	}
	if got := d.State().Chars(a).Chars(); !slices.Equal(got, chars) {
		t.Errorf("written is %v", got)
	}
}

// P14.2: At and Side of each are what Place says just ahead of it, told by a text of its own that is told them one by one.
func TestWritePlaces(t *testing.T) {
	d, clk := grow(t)
	f := fugue.New()
	for _, o := range garden() {
		switch o.Kind {
		case api.Insert:
			f.Insert(o.Id, o.At, o.Side, o.Char)
		case api.Delete:
			f.Delete(o.At)
		}
	}
	for n, index := range []int{1, 2, 0, 3, 9, 16, 4, 4} {
		chars := text(strings.Repeat("abcdef", 1+n)[:3+n])
		got, e := edits.Write(d, clk, b, index, chars)
		if e != api.OK || len(got) != len(chars) {
			t.Fatalf("Write: %d, error %d", len(got), e)
		}
		for n, o := range got {
			at, side, e := f.Place(index + n)
			if e != api.OK || o.At != at || o.Side != side || o.Char != chars[n] || o.Block != b || o.Kind != api.Insert {
				t.Fatalf("the %d-th one: %+v; Place is %v, %d, error %d", n, o, at, side, e)
			}
			f.Insert(o.Id, o.At, o.Side, o.Char)
		}
		// Something out of sight, so that Places lie beside what isn't seen.
		if _, e := edits.Erase(d, clk, b, f.Dots()[1:2]); e != api.OK {
			t.Fatalf("Erase: error %d", e)
		}
		f.Delete(f.Dots()[1])
		checkText(t, d, b, f.String())
	}
}

// P14.2: what is handed in is neither changed nor kept, and what is answered is new memory.
func TestWriteNewMemory(t *testing.T) {
	d, clk := grow(t)
	chars := []int{'a', 'b', 'c'}
	got, _ := edits.Write(d, clk, b, 1, chars)
	if !slices.Equal(chars, []int{'a', 'b', 'c'}) {
		t.Errorf("what is handed in is %v now", chars)
	}
	was := seen(d, clk)
	chars[0], chars[1] = 'x', 'y'
	for n := range got {
		for at := range got[n].Deps {
			got[n].Deps[at] = dot(5, 5+n)
		}
		if n+1 < len(got) && got[n+1].Deps[0] != dot(1, 11) {
			t.Error("two of one row share their Deps")
		}
	}
	if !same(d.Ops(), was.ops) || !slices.Equal(d.Version(), was.version) {
		t.Error("the document changed with what was answered")
	}
	checkText(t, d, b, "habci")
}
