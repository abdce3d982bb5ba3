package undo

import (
	"osier/api"
	"osier/clock"
	"osier/doc"
	"osier/edits"
)

// kept is what is kept of an edit: a block that was put somewhere, or characters. With an error it stays as it is.
type kept interface {
	undo(d *doc.Doc, c *clock.Clock) ([]api.Op, api.Errno)
	redo(d *doc.Doc, c *clock.Clock) ([]api.Op, api.Errno)
}

// keep is what is kept of an edit that issued operations, of which there is at least one; was is where its block lay ahead of it.
func keep(d *doc.Doc, was place, issued []api.Op) kept {
	if issued[0].Kind == api.Move {
		return keepBlock(was, issued[0])
	}
	return keepChars(d, issued)
}

// place is where a block lies. The empty one is nowhere: nothing lies under Dot{}.
type place struct {
	parent api.Dot
	key    string
}

// placeOf is where a block lies in a document.
func placeOf(d *doc.Doc, block api.Dot) place {
	parent, key, _ := d.State().Tree().Parent(block)
	return place{parent: parent, key: key}
}

// block is a block that was made, moved or thrown away.
type block struct {
	id  api.Dot
	was place // nowhere, if it was made
	put place
}

// keepBlock is what is kept of a block by its move.
func keepBlock(was place, move api.Op) *block {
	// The edit by which a block is made may name any other one.
	if move.Block == move.Id {
		was = place{}
	}
	return &block{id: move.Block, was: was, put: place{parent: move.Parent, key: move.Key}}
}

// undo puts the block to where it lay; one that lay nowhere is thrown away.
func (b *block) undo(d *doc.Doc, c *clock.Clock) ([]api.Op, api.Errno) {
	if b.was == (place{}) {
		return edits.Make(d, c, api.Edit{Kind: api.EditTrash, Block: b.id})
	}
	return edits.Put(d, c, b.id, b.was.parent, b.was.key)
}

// redo puts the block to where the edit had put it.
func (b *block) redo(d *doc.Doc, c *clock.Clock) ([]api.Op, api.Errno) {
	return edits.Put(d, c, b.id, b.put.parent, b.put.key)
}

// chars are characters that were put into a block, or taken out of sight there.
type chars struct {
	block api.Dot
	ids   []api.Dot
	codes []int // what stands at each of ids
	in    bool
}

// keepChars is what is kept of characters by the Inserts that put them in, or by the Deletes that took them out of sight.
func keepChars(d *doc.Doc, issued []api.Op) *chars {
	k := &chars{block: issued[0].Block, in: issued[0].Kind == api.Insert}
	for _, o := range issued {
		// A Delete doesn't tell what it takes out of sight; the Insert of that does.
		if o.Kind == api.Delete {
			o, _ = d.Get(o.At)
		}
		k.ids, k.codes = append(k.ids, o.Id), append(k.codes, o.Char)
	}
	return k
}

// undo turns the characters.
func (k *chars) undo(d *doc.Doc, c *clock.Clock) ([]api.Op, api.Errno) { return k.turn(d, c) }

// redo turns them, too: whether they are in or out tells what is to be done.
func (k *chars) redo(d *doc.Doc, c *clock.Clock) ([]api.Op, api.Errno) { return k.turn(d, c) }

// turn takes characters that are in out of sight, and puts those that are out in.
func (k *chars) turn(d *doc.Doc, c *clock.Clock) ([]api.Op, api.Errno) {
	if k.in {
		return k.erase(d, c)
	}
	return k.write(d, c)
}

// erase takes those that are seen out of sight. What others took out of sight stays so, and isn't kept any longer.
func (k *chars) erase(d *doc.Doc, c *clock.Clock) ([]api.Op, api.Errno) {
	out := chars{block: k.block}
	text := d.State().Chars(k.block)
	for i, id := range k.ids {
		if text.Seen(id) {
			out.ids, out.codes = append(out.ids, id), append(out.codes, k.codes[i])
		}
	}
	if len(out.ids) == 0 {
		return nil, api.ErrGone
	}
	issued, err := edits.Erase(d, c, k.block, out.ids)
	if err == api.OK {
		*k = out
	}
	return issued, err
}

// write puts them in anew, where the first one of them stood: what was taken out of sight is never seen again.
func (k *chars) write(d *doc.Doc, c *clock.Clock) ([]api.Op, api.Errno) {
	index, _ := d.State().Chars(k.block).Index(k.ids[0])
	issued, err := edits.Write(d, c, k.block, index, k.codes)
	if err == api.OK {
		*k = *keepChars(d, issued)
	}
	return issued, err
}
