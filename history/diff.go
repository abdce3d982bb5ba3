package history

import (
	"iter"

	"osier/api"
	"osier/dots"
	"osier/view"
)

// Kinds of changes.
const (
	Made = iota + 1
	Gone
	Moved
	Written
)

// Change is what became of a block.
type Change struct {
	Kind  int
	Block api.Dot
	Was   string // Written: the text
	Now   string
}

// Diff is what changed between two states.
func Diff(a, b *view.State) []Change {
	var out []Change
	for c := range changes(a, b) {
		out = append(out, c)
	}
	return out
}

// changes tells what changed, block by block. A state that is nil tells of no blocks and no texts, as one without operations does.
func changes(a, b *view.State) iter.Seq[Change] {
	return func(yield func(Change) bool) {
		for _, block := range dots.Union(a.Tree().Blocks(), b.Tree().Blocks()) {
			for _, c := range became(a, b, block) {
				if !yield(c) {
					return
				}
			}
		}
	}
}

// became is what became of a block that is in one tree at least.
func became(a, b *view.State, block api.Dot) []Change {
	oldParent, oldKey, inA := a.Tree().Parent(block)
	newParent, newKey, inB := b.Tree().Parent(block)
	if !inA {
		return []Change{{Kind: Made, Block: block}}
	}
	if !inB {
		return []Change{{Kind: Gone, Block: block}}
	}
	var out []Change
	if oldParent != newParent || oldKey != newKey {
		out = append(out, Change{Kind: Moved, Block: block})
	}
	if was, now := a.Text(block), b.Text(block); was != now {
		out = append(out, Change{Kind: Written, Block: block, Was: was, Now: now})
	}
	return out
}
