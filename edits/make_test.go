package edits_test

import (
	"math"
	"strings"
	"testing"

	"osier/api"
	"osier/clock"
	"osier/doc"
	"osier/edits"
)

// P14.4: the chapter's examples.
func TestExamples(t *testing.T) {
	d, clk := of(t), tick(t, 7, 0, 0)
	make := func(e api.Edit) api.Dot {
		t.Helper()
		l, n := edits.Make(d, clk, e)
		if n != api.OK {
			t.Fatalf("Make of %+v: error %d", e, n)
		}
		return l[0].Id
	}
	first := make(api.Edit{Kind: api.EditCreate, Parent: root})
	second := make(api.Edit{Kind: api.EditCreate, Parent: root})
	make(api.Edit{Kind: api.EditInsert, Block: second, Text: "hi"})
	if s := d.Show(); s != "- hi\n- \n" {
		t.Errorf("it is shown as %q", s)
	}
	make(api.Edit{Kind: api.EditMove, Block: first, Parent: second})
	checkRefused(t, "the second move", d, clk, making(api.Edit{Kind: api.EditMove, Block: second, Parent: first}), api.ErrCycle)
	if s := d.Show(); s != "- hi\n  - \n" {
		t.Errorf("it is shown as %q", s)
	}
}

// P14.4: ErrArg of a Kind that is none, whatever the rest is.
func TestMakeKind(t *testing.T) {
	d, clk := grow(t)
	wrong := tick(t, 7, 3, api.MaxTime)
	for _, kind := range []int{0, -1, 6, 7, math.MaxInt, math.MinInt, 1 << 32, 1<<32 + 1} {
		for _, e := range []api.Edit{{}, {Block: a, Parent: root}, {Block: dot(9, 9), Parent: none, Index: -1, Count: 2000, Text: "\xff"}} {
			e.Kind = kind
			checkRefused(t, "no Kind", d, clk, making(e), api.ErrArg)
			checkRefused(t, "no Kind", d, wrong, making(e), api.ErrArg)
			checkNil(t, "no Kind", making(e))
		}
	}
}

// P14.4: ErrArg without a document or a clock comes ahead of all other errors of each Kind.
func TestMakeNil(t *testing.T) {
	for kind := api.EditCreate; kind <= api.EditDelete; kind++ {
		for _, e := range []api.Edit{{}, {Block: a, Parent: root}, {Block: a, Parent: a}, {Block: dot(9, 9), Parent: none, Index: -1, Count: 2000, Text: "\xff"}} {
			e.Kind = kind
			checkNil(t, "Make", making(e))
		}
	}
}

// placed is what is issued for a block that is put somewhere.
func placed(block, parent api.Dot, key string) api.Op {
	return api.Op{Kind: api.Move, Block: block, Parent: parent, Key: key}
}

// P14.4: EditCreate: ErrBlock of a Parent that is neither Root nor there (the Trash is neither), ahead of ErrIndex.
func TestCreateBlock(t *testing.T) {
	d, clk := grow(t)
	for _, no := range notThere() {
		if no == root {
			continue
		}
		for _, index := range []int{0, 1, -1, math.MaxInt} {
			checkRefused(t, "no Parent", d, clk, making(api.Edit{Kind: api.EditCreate, Parent: no, Index: index, Block: a}), api.ErrBlock)
		}
	}
}

// P14.4: EditCreate: ErrIndex of an Index that isn't 0 to how many Kids there are; ahead of the row.
func TestCreateIndex(t *testing.T) {
	d, clk := grow(t)
	wrong := tick(t, 7, 3, 0)
	for _, parent := range []api.Dot{root, a, b, k, l, w, v} {
		kids := len(d.State().Tree().Kids(parent))
		for _, index := range []int{-1, math.MinInt, kids + 1, kids + 2, math.MaxInt} {
			f := making(api.Edit{Kind: api.EditCreate, Parent: parent, Index: index})
			checkRefused(t, "no Index", d, clk, f, api.ErrIndex)
			checkRefused(t, "no Index, by a clock that may not be", d, wrong, f, api.ErrIndex)
		}
		checkRefused(t, "a row", d, wrong, making(api.Edit{Kind: api.EditCreate, Parent: parent, Index: kids}), api.ErrArg)
	}
}

// crowd is a document in which blocks have keys between which there is no room: under Root p, q and r, the first two of one key; under p one with the least key there is, and one with the greatest; in the Trash one with the greatest.
func crowd(t *testing.T) (*doc.Doc, *clock.Clock) {
	t.Helper()
	least, greatest := strings.Repeat("a", api.MaxKey-1)+"b", strings.Repeat("z", api.MaxKey)
	return of(t,
		made(1, 1, 1, root, "n"), made(2, 1, 1, root, "n"), made(3, 1, 1, root, "t"),
		made(4, 1, 2, dot(1, 1), least, 1, 1), made(5, 1, 2, dot(1, 1), greatest, 1, 1),
		made(6, 1, 2, trash, greatest), made(7, 1, 2, trash, "n"),
	), tick(t, 9, 0, 0)
}

// P14.4: EditCreate: ErrKey where there is no key between: two of one key, and no room; ahead of the row.
func TestCreateKey(t *testing.T) {
	d, clk := crowd(t)
	wrong := tick(t, 9, 3, 0)
	for _, e := range []api.Edit{{Parent: root, Index: 1}, {Parent: dot(1, 1), Index: 0}, {Parent: dot(1, 1), Index: 2}} {
		e.Kind = api.EditCreate
		checkRefused(t, "no key", d, clk, making(e), api.ErrKey)
		checkRefused(t, "no key, by a clock that may not be", d, wrong, making(e), api.ErrKey)
	}
	checkIssued(t, "ahead", d, clk, making(api.Edit{Kind: api.EditCreate, Parent: root}), placed(dot(9, 1), root, "g"))
	checkIssued(t, "behind", d, clk, making(api.Edit{Kind: api.EditCreate, Parent: root, Index: 3}), placed(dot(9, 2), root, "q"))
	checkIssued(t, "between", d, clk, making(api.Edit{Kind: api.EditCreate, Parent: dot(1, 1), Index: 1}), placed(dot(9, 3), dot(1, 1), "m"))
}

// P14.4: EditCreate: at the beginning, between and at the end; under Root, a block, a block in the Trash; the other fields don't matter.
func TestCreate(t *testing.T) {
	one := dot(7, 1)
	for _, y := range []struct {
		parent api.Dot
		index  int
		key    string
		kids   []api.Dot
	}{
		{root, 0, "d", []api.Dot{one, a, b, c}}, {root, 1, "j", []api.Dot{a, one, b, c}}, {root, 2, "q", []api.Dot{a, b, one, c}}, {root, 3, "w", []api.Dot{a, b, c, one}},
		{a, 0, "g", []api.Dot{one, k}}, {a, 1, "t", []api.Dot{k, one}}, {b, 0, "n", []api.Dot{one}}, {l, 0, "n", []api.Dot{one}}, {w, 0, "g", []api.Dot{one, v}}, {v, 0, "n", []api.Dot{one}},
	} {
		for _, e := range []api.Edit{{}, {Block: dot(9, 9), Count: -5, Text: "\xff"}, {Block: y.parent, Count: 2000, Text: "a"}} {
			e.Kind, e.Parent, e.Index = api.EditCreate, y.parent, y.index
			d, clk := grow(t)
			checkIssued(t, "created", d, clk, making(e), placed(one, y.parent, y.key))
			checkKids(t, d, y.parent, y.kids...)
		}
	}
}

// P14.4: EditMove: ErrBlock of a Block that isn't there, and of a Parent that is neither Root nor there (the Trash is neither); ahead of ErrCycle and ErrIndex.
func TestMoveBlock(t *testing.T) {
	d, clk := grow(t)
	for _, no := range notThere() {
		for _, index := range []int{0, -1, math.MaxInt} {
			for _, parent := range []api.Dot{root, a, no, trash} {
				checkRefused(t, "no Block", d, clk, making(api.Edit{Kind: api.EditMove, Block: no, Parent: parent, Index: index}), api.ErrBlock)
			}
			if no != root {
				checkRefused(t, "no Parent", d, clk, making(api.Edit{Kind: api.EditMove, Block: a, Parent: no, Index: index}), api.ErrBlock)
			}
		}
	}
}

// P14.4: EditMove: ErrCycle, as Put; ahead of ErrIndex and ErrKey.
func TestMoveCycle(t *testing.T) {
	d, clk := grow(t)
	wrong := tick(t, 7, 3, 0)
	for _, p := range [][2]api.Dot{{a, a}, {b, b}, {l, l}, {w, w}, {a, k}, {a, l}, {k, l}, {w, v}} {
		for _, index := range []int{0, 1, -1, math.MaxInt} {
			f := making(api.Edit{Kind: api.EditMove, Block: p[0], Parent: p[1], Index: index})
			checkRefused(t, "a cycle", d, clk, f, api.ErrCycle)
			checkRefused(t, "a cycle, by a clock that may not be", d, wrong, f, api.ErrCycle)
		}
	}
	d, clk = crowd(t)
	checkRefused(t, "a cycle, and no key", d, clk, making(api.Edit{Kind: api.EditMove, Block: dot(1, 1), Parent: dot(1, 1)}), api.ErrCycle)
}

// P14.4: EditMove: ErrIndex of an Index that isn't 0 to how many Kids there are that aren't Block; ahead of the row.
func TestMoveIndex(t *testing.T) {
	d, clk := grow(t)
	wrong := tick(t, 7, 3, 0)
	for _, y := range []struct {
		block, parent api.Dot
		most          int
	}{{a, root, 2}, {b, root, 2}, {c, root, 2}, {k, root, 3}, {w, root, 3}, {k, a, 0}, {b, a, 1}, {l, a, 1}, {a, b, 0}, {b, w, 1}, {v, w, 0}} {
		for _, index := range []int{-1, math.MinInt, y.most + 1, y.most + 2, math.MaxInt} {
			f := making(api.Edit{Kind: api.EditMove, Block: y.block, Parent: y.parent, Index: index})
			checkRefused(t, "no Index", d, clk, f, api.ErrIndex)
			checkRefused(t, "no Index, by a clock that may not be", d, wrong, f, api.ErrIndex)
		}
		checkRefused(t, "a row", d, wrong, making(api.Edit{Kind: api.EditMove, Block: y.block, Parent: y.parent, Index: y.most}), api.ErrArg)
	}
}

// P14.4: EditMove: ErrKey where there is no key between the Kids that aren't Block; a key of the Block's own bounds nothing.
func TestMoveKey(t *testing.T) {
	d, clk := crowd(t)
	wrong := tick(t, 9, 3, 0)
	for _, e := range []api.Edit{{Block: dot(3, 1), Parent: root, Index: 1}, {Block: dot(2, 1), Parent: dot(1, 1), Index: 0}, {Block: dot(2, 1), Parent: dot(1, 1), Index: 2}, {Block: dot(5, 1), Parent: root, Index: 1}} {
		e.Kind = api.EditMove
		checkRefused(t, "no key", d, clk, making(e), api.ErrKey)
		checkRefused(t, "no key, by a clock that may not be", d, wrong, making(e), api.ErrKey)
	}
	checkIssued(t, "its own key", d, clk, making(api.Edit{Kind: api.EditMove, Block: dot(4, 1), Parent: dot(1, 1)}), placed(dot(4, 1), dot(1, 1), "m"))
	checkIssued(t, "one of two of one key", d, clk, making(api.Edit{Kind: api.EditMove, Block: dot(2, 1), Parent: root, Index: 1}), placed(dot(2, 1), root, "q"))
	checkKids(t, d, root, dot(1, 1), dot(2, 1), dot(3, 1))
}

// P14.4: EditMove: among its siblings, to another parent, out of the Trash and into what lies there; the other fields don't matter.
func TestMove(t *testing.T) {
	for _, y := range []struct {
		block, parent api.Dot
		index         int
		key           string
		kids          []api.Dot
	}{
		{a, root, 0, "g", []api.Dot{a, b, c}}, {a, root, 1, "q", []api.Dot{b, a, c}}, {a, root, 2, "w", []api.Dot{b, c, a}},
		{b, root, 0, "d", []api.Dot{b, a, c}}, {b, root, 1, "m", []api.Dot{a, b, c}}, {b, root, 2, "w", []api.Dot{a, c, b}},
		{c, root, 0, "d", []api.Dot{c, a, b}}, {c, root, 1, "j", []api.Dot{a, c, b}}, {c, root, 2, "t", []api.Dot{a, b, c}},
		{l, root, 1, "j", []api.Dot{a, l, b, c}}, {w, root, 3, "w", []api.Dot{a, b, c, w}}, {v, root, 0, "d", []api.Dot{v, a, b, c}},
		{b, a, 0, "g", []api.Dot{b, k}}, {b, a, 1, "t", []api.Dot{k, b}}, {l, a, 1, "t", []api.Dot{k, l}}, {k, a, 0, "n", []api.Dot{k}},
		{a, b, 0, "n", []api.Dot{a}}, {a, w, 0, "g", []api.Dot{a, v}}, {a, v, 0, "n", []api.Dot{a}}, {w, l, 0, "n", []api.Dot{w}},
	} {
		for _, e := range []api.Edit{{}, {Count: -5, Text: "\xff"}} {
			e.Kind, e.Block, e.Parent, e.Index = api.EditMove, y.block, y.parent, y.index
			d, clk := grow(t)
			checkIssued(t, "moved", d, clk, making(e), placed(y.block, y.parent, y.key))
			checkKids(t, d, y.parent, y.kids...)
		}
	}
}

// P14.4: EditTrash: ErrBlock of a Block that isn't there; ahead of the row.
func TestTrashBlock(t *testing.T) {
	d, clk := grow(t)
	wrong := tick(t, 7, 3, 0)
	for _, no := range notThere() {
		f := making(api.Edit{Kind: api.EditTrash, Block: no, Parent: a})
		checkRefused(t, "no Block", d, clk, f, api.ErrBlock)
		checkRefused(t, "no Block, by a clock that may not be", d, wrong, f, api.ErrBlock)
	}
	checkRefused(t, "a row", d, wrong, making(api.Edit{Kind: api.EditTrash, Block: a}), api.ErrArg)
}

// P14.4: EditTrash: ErrKey where there is none behind the last one; the Block itself doesn't count.
func TestTrashKey(t *testing.T) {
	d, clk := crowd(t)
	wrong := tick(t, 9, 3, 0)
	for _, block := range []api.Dot{dot(1, 1), dot(3, 1), dot(4, 1), dot(7, 1)} {
		f := making(api.Edit{Kind: api.EditTrash, Block: block})
		checkRefused(t, "no key", d, clk, f, api.ErrKey)
		checkRefused(t, "no key, by a clock that may not be", d, wrong, f, api.ErrKey)
	}
	checkIssued(t, "the last one itself", d, clk, making(api.Edit{Kind: api.EditTrash, Block: dot(6, 1)}), placed(dot(6, 1), trash, "t"))
	checkIssued(t, "room again", d, clk, making(api.Edit{Kind: api.EditTrash, Block: dot(7, 1)}), placed(dot(7, 1), trash, "w"))
	checkKids(t, d, trash, dot(6, 1), dot(7, 1))
}

// P14.4: EditTrash: behind all that lie there, one after the other, of all that there are, those in the Trash, too; the other fields don't matter.
func TestTrash(t *testing.T) {
	for _, e := range []api.Edit{{}, {Parent: dot(9, 9), Index: -1, Count: -1, Text: "\xff"}, {Parent: a, Index: 5}} {
		d, clk := grow(t)
		throw := func(block api.Dot, key string) {
			t.Helper()
			e.Kind, e.Block = api.EditTrash, block
			checkIssued(t, "thrown away", d, clk, making(e), placed(block, trash, key))
		}
		throw(w, "n")
		throw(a, "t")
		checkKids(t, d, trash, w, a)
		throw(l, "w")
		throw(v, "y")
		checkKids(t, d, trash, w, a, l, v)
		throw(w, "z")
		checkKids(t, d, trash, a, l, v, w)
		throw(w, "z")
		throw(b, "zn")
		throw(c, "zt")
		checkKids(t, d, trash, a, l, v, w, b, c)
		checkKids(t, d, root)
	}
}

// P14.4: EditTrash into a Trash in which nothing lies.
func TestTrashFirst(t *testing.T) {
	d, clk := of(t, made(1, 1, 1, root, "c")), tick(t, 7, 0, 0)
	checkIssued(t, "the first one", d, clk, making(api.Edit{Kind: api.EditTrash, Block: dot(1, 1)}), placed(dot(1, 1), trash, "n"))
}

// noText are texts that are no UTF-8.
func noText() []string {
	return []string{"\xff", "a\xff", "\xffa", "a\xc3", "\x80", "\xc0\x80", "\xed\xa0\x80", "\xf4\x90\x80\x80", "é\xe2\x82", strings.Repeat("a", 2000) + "\xff"}
}

// P14.4: EditInsert: ErrBlock of a Block that isn't there, ahead of the others.
func TestInsertBlock(t *testing.T) {
	d, clk := grow(t)
	for _, no := range notThere() {
		for _, s := range append(noText(), "", "a", strings.Repeat("a", 2000)) {
			checkRefused(t, "no Block", d, clk, making(api.Edit{Kind: api.EditInsert, Block: no, Parent: a, Text: s}), api.ErrBlock)
		}
	}
}

// P14.4: EditInsert: ErrForm of a Text that is no UTF-8, ahead of ErrLimit and ErrIndex.
func TestInsertForm(t *testing.T) {
	d, clk := grow(t)
	for _, s := range noText() {
		for _, index := range []int{0, 2, 3, -1} {
			checkRefused(t, "no UTF-8", d, clk, making(api.Edit{Kind: api.EditInsert, Block: b, Index: index, Text: s}), api.ErrForm)
		}
	}
}

// P14.4: EditInsert: ErrLimit of more than MaxText code points (not bytes), ahead of ErrIndex.
func TestInsertLimit(t *testing.T) {
	for _, s := range []string{"a", "é", "€", "😀"} {
		d, clk := grow(t)
		for _, index := range []int{0, 2, 3, -1} {
			checkRefused(t, "too long", d, clk, making(api.Edit{Kind: api.EditInsert, Block: b, Index: index, Text: strings.Repeat(s, api.MaxText+1)}), api.ErrLimit)
		}
		got, e := edits.Make(d, clk, api.Edit{Kind: api.EditInsert, Block: b, Index: 1, Text: strings.Repeat(s, api.MaxText)})
		if e != api.OK || len(got) != api.MaxText {
			t.Errorf("MaxText: %d, error %d", len(got), e)
		}
		checkText(t, d, b, "h"+strings.Repeat(s, api.MaxText)+"i")
	}
}

// P14.4: EditInsert: ErrIndex, as Write; ahead of the row.
func TestInsertIndex(t *testing.T) {
	d, clk := grow(t)
	wrong := tick(t, 7, 3, 0)
	for _, index := range []int{-1, math.MinInt, 3, 4, math.MaxInt} {
		for _, s := range []string{"", "a"} {
			f := making(api.Edit{Kind: api.EditInsert, Block: b, Index: index, Text: s})
			checkRefused(t, "no Index", d, clk, f, api.ErrIndex)
			checkRefused(t, "no Index, by a clock that may not be", d, wrong, f, api.ErrIndex)
		}
	}
	checkRefused(t, "a row", d, wrong, making(api.Edit{Kind: api.EditInsert, Block: b, Text: "a"}), api.ErrArg)
}

// P14.4: EditInsert: Write of the Text's code points; the other fields don't matter.
func TestInsert(t *testing.T) {
	for _, s := range []string{"", "a", "ab", "é€😀", "\n\\\t\x00", "\ufffd\ufeff", "\U0010ffff\ud7ff\ue000"} {
		for index := range 3 {
			for _, e := range []api.Edit{{}, {Parent: dot(9, 9), Count: -1}, {Parent: b, Count: 2000}} {
				e.Kind, e.Block, e.Index, e.Text = api.EditInsert, b, index, s
				d, clk := grow(t)
				twin, other := grow(t)
				want, error := edits.Write(twin, other, b, index, text(s))
				got, n := edits.Make(d, clk, e)
				if n != error || n != api.OK || !same(got, want) {
					t.Errorf("Make of %+v: error %d, issued is %+v, not %+v", e, n, got, want)
				}
				checkText(t, d, b, "hi"[:index]+s+"hi"[index:])
			}
		}
	}
}

// P14.4: EditDelete: ErrBlock of a Block that isn't there, ahead of the others.
func TestDeleteBlock(t *testing.T) {
	d, clk := grow(t)
	for _, no := range notThere() {
		for _, count := range []int{0, 1, -1, 2000} {
			for _, index := range []int{0, -1} {
				checkRefused(t, "no Block", d, clk, making(api.Edit{Kind: api.EditDelete, Block: no, Parent: b, Index: index, Count: count}), api.ErrBlock)
			}
		}
	}
}

// P14.4: EditDelete: ErrLimit of a Count above MaxText, ahead of ErrIndex; MaxText may be.
func TestDeleteLimit(t *testing.T) {
	d, clk := grow(t)
	for range 2 {
		if _, e := edits.Write(d, clk, b, 1, text(strings.Repeat("a", 600))); e != api.OK {
			t.Fatalf("Write: error %d", e)
		}
	}
	for _, count := range []int{api.MaxText + 1, 1202, 5000, math.MaxInt} {
		for _, index := range []int{0, 1, -1, 5000, math.MinInt, math.MaxInt} {
			checkRefused(t, "too many", d, clk, making(api.Edit{Kind: api.EditDelete, Block: b, Index: index, Count: count}), api.ErrLimit)
		}
	}
	got, e := edits.Make(d, clk, api.Edit{Kind: api.EditDelete, Block: b, Index: 1, Count: api.MaxText})
	if e != api.OK || len(got) != api.MaxText {
		t.Errorf("MaxText: %d, error %d", len(got), e)
	}
	checkText(t, d, b, "h"+strings.Repeat("a", 200)+"i")
}

// P14.4: EditDelete: ErrIndex, if Index or Count is below 0, or both together are above the Len, also where they have no room in an int; ahead of the row.
func TestDeleteIndex(t *testing.T) {
	d, clk := grow(t)
	wrong := tick(t, 7, 3, 0)
	for _, p := range [][2]int{{-1, 0}, {-1, 1}, {-1, 3}, {0, -1}, {2, -1}, {3, -1}, {3, -2}, {0, 3}, {1, 2}, {2, 1}, {3, 0}, {0, api.MaxText}, {math.MaxInt, 0}, {math.MaxInt, 1}, {math.MaxInt, api.MaxText}, {math.MaxInt - 5, 6}, {math.MinInt, 0}, {math.MinInt, 2}, {0, math.MinInt}, {math.MaxInt, math.MinInt}, {math.MinInt, math.MinInt}, {-5, 7}} {
		f := making(api.Edit{Kind: api.EditDelete, Block: b, Index: p[0], Count: p[1]})
		checkRefused(t, "no Index", d, clk, f, api.ErrIndex)
		checkRefused(t, "no Index, by a clock that may not be", d, wrong, f, api.ErrIndex)
		checkRefused(t, "no Index where there is no text", d, clk, making(api.Edit{Kind: api.EditDelete, Block: a, Index: p[0], Count: p[1]}), api.ErrIndex)
	}
	checkRefused(t, "of a block without a text", d, clk, making(api.Edit{Kind: api.EditDelete, Block: a, Count: 1}), api.ErrIndex)
	checkRefused(t, "a row", d, wrong, making(api.Edit{Kind: api.EditDelete, Block: b, Count: 1}), api.ErrArg)
}

// P14.4: EditDelete: the Count seen ones from Index on; the other fields don't matter.
func TestDelete(t *testing.T) {
	seen := []api.Dot{h, i}
	for index := range 3 {
		for count := range 3 - index {
			for _, e := range []api.Edit{{}, {Parent: dot(9, 9), Text: "\xff"}} {
				e.Kind, e.Block, e.Index, e.Count = api.EditDelete, b, index, count
				d, clk := grow(t)
				var want []api.Op
				for _, at := range seen[index : index+count] {
					want = append(want, erased(b, at))
				}
				checkIssued(t, "erased", d, clk, making(e), want...)
				checkText(t, d, b, "hi"[:index]+"hi"[index+count:])
			}
		}
	}
	d, clk := grow(t)
	checkIssued(t, "none of a block without a text", d, clk, making(api.Edit{Kind: api.EditDelete, Block: a}))
}
