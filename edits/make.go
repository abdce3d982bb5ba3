package edits

import (
	"slices"
	"unicode/utf8"

	"osier/api"
	"osier/clock"
	"osier/doc"
	"osier/keys"
	"osier/movetree"
)

// Make makes an edit's operations, and takes them in.
func Make(d *doc.Doc, c *clock.Clock, e api.Edit) ([]api.Op, api.Errno) {
	if d == nil || c == nil {
		return nil, api.ErrArg
	}
	switch e.Kind {
	case api.EditCreate:
		return create(d, c, e)
	case api.EditMove:
		return move(d, c, e)
	case api.EditTrash:
		return throw(d, c, e)
	case api.EditInsert:
		return insert(d, c, e)
	case api.EditDelete:
		return remove(d, c, e)
	}
	return nil, api.ErrArg
}

// create makes a block.
func create(d *doc.Doc, c *clock.Clock, e api.Edit) ([]api.Op, api.Errno) {
	t := d.State().Tree()
	if !holds(t, e.Parent) {
		return nil, api.ErrBlock
	}
	return place(d, c, api.Dot{}, e.Parent, t.Kids(e.Parent), e.Index)
}

// move moves a block.
func move(d *doc.Doc, c *clock.Clock, e api.Edit) ([]api.Op, api.Errno) {
	t := d.State().Tree()
	if !t.There(e.Block) || !holds(t, e.Parent) {
		return nil, api.ErrBlock
	}
	if cycle(t, e.Block, e.Parent) {
		return nil, api.ErrCycle
	}
	return place(d, c, e.Block, e.Parent, others(t, e.Block, e.Parent), e.Index)
}

// throw moves a block to the trash, behind all that lie there. That is no cycle: the trash lies under nothing.
func throw(d *doc.Doc, c *clock.Clock, e api.Edit) ([]api.Op, api.Errno) {
	t := d.State().Tree()
	if !t.There(e.Block) {
		return nil, api.ErrBlock
	}
	kids := others(t, e.Block, api.Trash())
	return place(d, c, e.Block, api.Trash(), kids, len(kids))
}

// others are a parent's Kids but for a block, which may be one of them: its own place doesn't count where it is moved.
func others(t *movetree.Tree, block, parent api.Dot) []api.Dot {
	return slices.DeleteFunc(t.Kids(parent), func(kid api.Dot) bool { return kid == block })
}

// place puts a block under a parent, at an index among these of its Kids.
func place(d *doc.Doc, c *clock.Clock, block, parent api.Dot, kids []api.Dot, index int) ([]api.Op, api.Errno) {
	if index < 0 || index > len(kids) {
		return nil, api.ErrIndex
	}
	t := d.State().Tree()
	var ahead, at string
	if index > 0 {
		_, ahead, _ = t.Parent(kids[index-1])
	}
	if index < len(kids) {
		_, at, _ = t.Parent(kids[index])
	}
	key, e := keys.Between(ahead, at)
	if e != api.OK {
		return nil, e
	}
	return Put(d, c, block, parent, key)
}

// insert writes a text into a block.
func insert(d *doc.Doc, c *clock.Clock, e api.Edit) ([]api.Op, api.Errno) {
	if !d.State().Tree().There(e.Block) {
		return nil, api.ErrBlock
	}
	if !utf8.ValidString(e.Text) {
		return nil, api.ErrForm
	}
	var chars []int
	for _, char := range e.Text {
		chars = append(chars, int(char))
	}
	return Write(d, c, e.Block, e.Index, chars)
}

// remove takes a piece of a block's text out of sight.
func remove(d *doc.Doc, c *clock.Clock, e api.Edit) ([]api.Op, api.Errno) {
	if !d.State().Tree().There(e.Block) {
		return nil, api.ErrBlock
	}
	if e.Count > api.MaxText {
		return nil, api.ErrLimit
	}
	seen := text(d, e.Block).Dots()
	// Both together may have no room in an int.
	if e.Index < 0 || e.Count < 0 || e.Index > len(seen)-e.Count {
		return nil, api.ErrIndex
	}
	return Erase(d, c, e.Block, seen[e.Index:e.Index+e.Count])
}
