package edits_test

import (
	"slices"
	"strings"
	"testing"

	"osier/api"
	"osier/edits"
)

// P14.3: ErrArg, ahead of all others.
func TestEraseNil(t *testing.T) {
	for _, f := range []call{erasing(b, h), erasing(b), erasing(dot(9, 9), none), erasing(b, x, x), erasing(b, make([]api.Dot, 2000)...)} {
		checkNil(t, "Erase", f)
	}
}

// P14.3: ErrBlock of a block that isn't there; ahead of the others, also where nothing is to be erased, and where there is a text of what is no block.
func TestEraseBlock(t *testing.T) {
	d := of(t, append(garden(), put(1, 12, 120, h, none, 'y', 1, 11))...)
	clk := tick(t, 7, 0, 0)
	for _, no := range notThere() {
		for _, f := range []call{erasing(no), erasing(no, h), erasing(no, dot(1, 12)), erasing(no, none), erasing(no, make([]api.Dot, api.MaxText+1)...)} {
			checkRefused(t, "no block", d, clk, f, api.ErrBlock)
		}
	}
}

// P14.3: ErrLimit of more than MaxText chars; ahead of ErrIndex. MaxText may be.
func TestEraseLimit(t *testing.T) {
	d, clk := grow(t)
	for _, s := range []string{strings.Repeat("a", api.MaxText), "b"} {
		if _, e := edits.Write(d, clk, a, 0, text(s)); e != api.OK {
			t.Fatalf("Write: error %d", e)
		}
	}
	all := d.State().Chars(a).Dots()
	checkRefused(t, "too many", d, clk, erasing(a, all...), api.ErrLimit)
	checkRefused(t, "too many, not seen", d, clk, erasing(b, all...), api.ErrLimit)
	checkRefused(t, "too many, one twice", d, clk, erasing(a, append(all[1:], all[1])...), api.ErrLimit)
	checkRefused(t, "MaxText, one twice", d, clk, erasing(a, append(all[2:], all[2])...), api.ErrIndex)
	got, e := edits.Erase(d, clk, a, all[1:])
	if e != api.OK || len(got) != api.MaxText {
		t.Errorf("MaxText: %d, error %d", len(got), e)
	}
	checkText(t, d, a, "b")
}

// P14.3: ErrIndex of one that isn't seen in the block's text: none, one that was taken out of sight, one of another block, one that is no character; wherever it stands. Ahead of what may be wrong with the row.
func TestEraseNotSeen(t *testing.T) {
	d, clk := grow(t)
	if _, e := edits.Write(d, clk, a, 0, []int{'y'}); e != api.OK {
		t.Fatalf("Write: error %d", e)
	}
	wrong := tick(t, 8, 3, 0)
	for _, no := range []api.Dot{none, root, trash, x, dot(7, 1), a, b, dot(1, 11), dot(9, 9), dot(-1, 1), dot(1, 0)} {
		for _, chars := range [][]api.Dot{{no}, {no, h}, {h, no}, {h, no, i}} {
			checkRefused(t, "not seen", d, clk, erasing(b, chars...), api.ErrIndex)
			checkRefused(t, "not seen, by a clock that may not be", d, wrong, erasing(b, chars...), api.ErrIndex)
		}
	}
	checkRefused(t, "of a block without a text", d, clk, erasing(c, h), api.ErrIndex)
	checkRefused(t, "a row", d, wrong, erasing(b, h), api.ErrArg)
	checkRefused(t, "a row of none", d, wrong, erasing(b), api.ErrArg)
}

// P14.3: ErrIndex of one that stands there twice.
func TestEraseTwice(t *testing.T) {
	d, clk := grow(t)
	for _, chars := range [][]api.Dot{{h, h}, {i, i}, {h, i, h}, {h, i, i}, {h, h, i}, {i, h, i, h}} {
		checkRefused(t, "twice", d, clk, erasing(b, chars...), api.ErrIndex)
	}
	checkIssued(t, "once", d, clk, erasing(b, h), erased(b, h))
	checkRefused(t, "once more", d, clk, erasing(b, h), api.ErrIndex)
}

// erased is a Delete in a block.
func erased(block, at api.Dot) api.Op { return api.Op{Kind: api.Delete, Block: block, At: at} }

// P14.3: none, one and many, in the order in which they are handed in.
func TestErase(t *testing.T) {
	for _, y := range []struct {
		chars []api.Dot
		shown string
	}{{nil, "hi"}, {[]api.Dot{h}, "i"}, {[]api.Dot{i}, "h"}, {[]api.Dot{h, i}, ""}, {[]api.Dot{i, h}, ""}} {
		d, clk := grow(t)
		var want []api.Op
		for _, at := range y.chars {
			want = append(want, erased(b, at))
		}
		checkIssued(t, y.shown, d, clk, erasing(b, y.chars...), want...)
		checkText(t, d, b, y.shown)
	}
	d, clk := grow(t)
	for _, block := range []api.Dot{a, v, w} {
		checkIssued(t, "none of a block without a text", d, clk, erasing(block))
	}
}

// P14.3: characters of one's own, in a block that was thrown away, not side by side.
func TestEraseOwn(t *testing.T) {
	d, clk := grow(t)
	written, _ := edits.Write(d, clk, v, 0, text("abcdef"))
	id := func(n int) api.Dot { return written[n].Id }
	checkIssued(t, "own ones", d, clk, erasing(v, id(4), id(0), id(2)), erased(v, id(4)), erased(v, id(0)), erased(v, id(2)))
	checkText(t, d, v, "bdf")
}

// P14.3: what is handed in is neither changed nor kept, and what is answered is new memory.
func TestEraseNewMemory(t *testing.T) {
	d, clk := grow(t)
	chars := []api.Dot{i, h}
	got, _ := edits.Erase(d, clk, b, chars)
	if !slices.Equal(chars, []api.Dot{i, h}) {
		t.Errorf("what is handed in is %v now", chars)
	}
	was := seen(d, clk)
	chars[0], chars[1] = a, b
	got[0].Deps[0] = dot(5, 5)
	if got[1].Deps[0] != dot(1, 11) || got[0].At != i || !same(d.Ops(), was.ops) || !slices.Equal(d.Version(), was.version) {
		t.Error("what was answered shares memory")
	}
}
