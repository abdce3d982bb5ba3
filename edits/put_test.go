package edits_test

import (
	"slices"
	"strings"
	"testing"

	"osier/api"
	"osier/edits"
)

// P14.1: ErrArg, ahead of all others.
func TestPutNil(t *testing.T) {
	for _, f := range []call{putting(none, root, "n"), putting(a, b, "n"), putting(dot(9, 9), none, ""), putting(a, a, "n"), putting(a, k, "A")} {
		checkNil(t, "Put", f)
	}
}

// P14.1: ErrBlock of a block that is neither Dot{} nor there, and of a parent that is neither Root nor Trash nor there; ahead of ErrKey and ErrCycle.
func TestPutBlock(t *testing.T) {
	d, clk := grow(t)
	for _, no := range notThere() {
		for _, key := range []string{"n", "", "A"} {
			if no != none {
				checkRefused(t, "no block", d, clk, putting(no, root, key), api.ErrBlock)
				checkRefused(t, "no block, under one", d, clk, putting(no, a, key), api.ErrBlock)
				checkRefused(t, "no block, under itself", d, clk, putting(no, no, key), api.ErrBlock)
			}
			if no != root && no != trash {
				checkRefused(t, "no parent", d, clk, putting(none, no, key), api.ErrBlock)
				checkRefused(t, "no parent of a block", d, clk, putting(a, no, key), api.ErrBlock)
			}
		}
	}
}

// wrongKeys are texts that are no keys.
func wrongKeys() []string {
	return []string{"", "a", "ba", "aaa", "A", "bN", "b c", "b1", "é", "b\xff", "b\x00", "{", "`", strings.Repeat("b", api.MaxKey+1)}
}

// P14.1: ErrKey of a key that is none; ahead of ErrCycle.
func TestPutKey(t *testing.T) {
	d, clk := grow(t)
	for _, key := range wrongKeys() {
		for _, parent := range []api.Dot{root, trash, a} {
			checkRefused(t, "no key", d, clk, putting(none, parent, key), api.ErrKey)
			checkRefused(t, "no key of a block", d, clk, putting(b, parent, key), api.ErrKey)
		}
		checkRefused(t, "no key, under itself", d, clk, putting(a, a, key), api.ErrKey)
		checkRefused(t, "no key, under what is under it", d, clk, putting(a, l, key), api.ErrKey)
	}
}

// P14.1: ErrCycle of a block that would lie under itself, at once or further up, under Root and in the Trash; ahead of what may be wrong with the row.
func TestPutCycle(t *testing.T) {
	d, clk := grow(t)
	wrong := tick(t, 7, 3, 0)
	for _, p := range [][2]api.Dot{{a, a}, {b, b}, {l, l}, {w, w}, {v, v}, {a, k}, {a, l}, {k, l}, {w, v}} {
		checkRefused(t, "a cycle", d, clk, putting(p[0], p[1], "n"), api.ErrCycle)
		checkRefused(t, "a cycle, by a clock that may not be", d, wrong, putting(p[0], p[1], "n"), api.ErrCycle)
	}
}

// P14.1: the errors of Put come ahead of those of the row.
func TestPutAheadOfRow(t *testing.T) {
	d, _ := grow(t)
	wrong := tick(t, 7, 3, 0)
	checkRefused(t, "no block", d, wrong, putting(dot(9, 9), root, "n"), api.ErrBlock)
	checkRefused(t, "no parent", d, wrong, putting(none, none, "n"), api.ErrBlock)
	checkRefused(t, "no key", d, wrong, putting(none, root, "A"), api.ErrKey)
	checkRefused(t, "a row", d, wrong, putting(none, root, "n"), api.ErrArg)
}

// P14.1: a block that is made: its Id is the Block.
func TestPutMade(t *testing.T) {
	for _, parent := range []api.Dot{root, trash, a, b, l, w, v} {
		for _, key := range []string{"n", "b", "z", "ab", "zzz", strings.Repeat("z", api.MaxKey), strings.Repeat("a", api.MaxKey-1) + "b"} {
			d, clk := grow(t)
			checkIssued(t, "made", d, clk, putting(none, parent, key), api.Op{Kind: api.Move, Block: dot(7, 1), Parent: parent, Key: key})
			if p, at, there := d.State().Tree().Parent(dot(7, 1)); p != parent || at != key || !there {
				t.Errorf("it lies under %v, with %q, %v", p, at, there)
			}
			checkIssued(t, "made again", d, clk, putting(none, parent, key), api.Op{Kind: api.Move, Block: dot(7, 2), Parent: parent, Key: key})
			kids := d.State().Tree().Kids(parent)
			if at := slices.Index(kids, dot(7, 1)); at < 0 || at+1 >= len(kids) || kids[at+1] != dot(7, 2) {
				t.Errorf("of one key: the Kids of %v are %v", parent, kids)
			}
		}
	}
}

// P14.1: a block that is moved: under Root, Trash and a block, out of these, and to where it lies.
func TestPutMoved(t *testing.T) {
	d, clk := grow(t)
	n := 0
	for _, block := range []api.Dot{a, b, c, k, l, w, v, b, l, a} {
		for _, parent := range []api.Dot{root, trash, c, w, b} {
			if parent == block || slices.Contains(d.State().Tree().Path(parent), block) {
				continue
			}
			n++
			key := []string{"b", "n", "zz"}[n%3]
			checkIssued(t, "moved", d, clk, putting(block, parent, key), api.Op{Kind: api.Move, Block: block, Parent: parent, Key: key})
			if p, at, there := d.State().Tree().Parent(block); p != parent || at != key || !there {
				t.Errorf("%v lies under %v, with %q, %v", block, p, at, there)
			}
			checkIssued(t, "to where it lies", d, clk, putting(block, parent, key), api.Op{Kind: api.Move, Block: block, Parent: parent, Key: key})
		}
	}
	if n < 30 {
		t.Errorf("but %d were moved", n)
	}
}

// P14.1: what lies under a block that is moved to the Trash is still there: blocks are made under it, and moved out of it.
func TestPutInTrash(t *testing.T) {
	d, clk := grow(t)
	checkIssued(t, "thrown away", d, clk, putting(a, trash, "b"), api.Op{Kind: api.Move, Block: a, Parent: trash, Key: "b"})
	checkIssued(t, "made there", d, clk, putting(none, l, "n"), api.Op{Kind: api.Move, Block: dot(7, 2), Parent: l, Key: "n"})
	checkRefused(t, "a cycle there", d, clk, putting(a, dot(7, 2), "n"), api.ErrCycle)
	checkIssued(t, "moved out of it", d, clk, putting(l, root, "b"), api.Op{Kind: api.Move, Block: l, Parent: root, Key: "b"})
	checkIssued(t, "no cycle any more", d, clk, putting(a, dot(7, 2), "n"), api.Op{Kind: api.Move, Block: a, Parent: dot(7, 2), Key: "n"})
	if s := d.Show(); s != "- \n  - \n    - \n      - \n- hi\n- \n" {
		t.Errorf("it is shown as %q", s)
	}
}

// P14.1: a document without operations.
func TestPutFirst(t *testing.T) {
	d, clk := of(t), tick(t, 0, 0, 0)
	checkRefused(t, "no block", d, clk, putting(dot(0, 1), root, "n"), api.ErrBlock)
	checkRefused(t, "no parent", d, clk, putting(none, dot(0, 1), "n"), api.ErrBlock)
	got, e := edits.Put(d, clk, none, root, "n")
	if e != api.OK || !same(got, []api.Op{made(0, 1, 1, root, "n")}) {
		t.Errorf("the first one: %+v, %d", got, e)
	}
}

// P14.1: what is answered is new memory.
func TestPutNewMemory(t *testing.T) {
	d, clk := grow(t)
	got, _ := edits.Put(d, clk, none, root, "n")
	was := seen(d, clk)
	got[0].Deps[0] = dot(5, 5)
	again, _ := d.Get(dot(7, 1))
	if again.Deps[0] != dot(1, 11) || !slices.Equal(d.Version(), was.version) || !same(d.Ops(), was.ops) {
		t.Errorf("the document changed with what was answered: %+v", again)
	}
}
