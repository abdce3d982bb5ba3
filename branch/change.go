package branch

import (
	"strings"

	"osier/api"
	"osier/clock"
	"osier/doc"
	"osier/undo"
	"osier/vector"
)

// holder is whose a stack is: a user's, at a branch.
type holder struct {
	branch string
	user   string
}

// doing is what is done with a stack, the document that it is of, and a clock.
type doing func(s *undo.Stack, d *doc.Doc, c *clock.Clock) ([]api.Op, api.Errno)

// Edit makes a user's edit in a branch.
func (b *Branches) Edit(name, user string, e api.Edit) ([]api.Op, api.Errno) {
	return b.do(name, user, func(s *undo.Stack, d *doc.Doc, c *clock.Clock) ([]api.Op, api.Errno) { return s.Do(d, c, e) })
}

// Undo undoes a user's last edit in a branch.
func (b *Branches) Undo(name, user string) ([]api.Op, api.Errno) {
	return b.do(name, user, (*undo.Stack).Undo)
}

// Redo does again what a user undid last in a branch.
func (b *Branches) Redo(name, user string) ([]api.Op, api.Errno) {
	return b.do(name, user, (*undo.Stack).Redo)
}

// do does something with a user's stack at a branch.
func (b *Branches) do(name, user string, f doing) ([]api.Op, api.Errno) {
	if b == nil {
		return nil, api.ErrArg
	}
	if b.docs[name] == nil || !May(user) {
		return nil, api.ErrName
	}
	whose := holder{branch: name, user: user}
	s := b.stacks[whose]
	if s == nil {
		s = undo.New()
	}
	issued, e := f(s, b.docs[name], b.clock(name))
	b.keep(whose, s)
	return issued, e
}

// keep keeps a stack, unless nothing lies on it: a fresh one does as well.
func (b *Branches) keep(whose holder, s *undo.Stack) {
	if s.Undos()+s.Redos() == 0 {
		delete(b.stacks, whose)
		return
	}
	// As with a branch's name: what is handed in isn't kept.
	b.stacks[holder{branch: strings.Clone(whose.branch), user: strings.Clone(whose.user)}] = s
}

// clock is the clock of a branch that is there. It is a fresh one each time: the document may have been told more meanwhile, also by others than the branches.
func (b *Branches) clock(name string) *clock.Clock {
	d := b.docs[name]
	actor, _ := b.Actor(name)
	// A document's numbers are within a clock's bounds.
	c, _ := clock.New(actor, vector.Get(d.Version(), actor), d.Time())
	return c
}

// Deliver tells a branch an operation.
func (b *Branches) Deliver(name string, o api.Op) ([]api.Op, api.Errno) {
	if b == nil {
		return nil, api.ErrArg
	}
	if b.docs[name] == nil {
		return nil, api.ErrName
	}
	return b.docs[name].Deliver(o)
}

// Merge tells a branch all that another one took in: what is taken in by it, also where an error ends it.
func (b *Branches) Merge(into, from string) ([]api.Op, api.Errno) {
	if b == nil {
		return nil, api.ErrArg
	}
	if b.docs[into] == nil || b.docs[from] == nil {
		return nil, api.ErrName
	}
	var in []api.Op
	for _, o := range b.docs[from].Ops() {
		taken, e := b.docs[into].Deliver(o)
		if e != api.OK && e != api.ErrTwice {
			return in, e
		}
		in = append(in, taken...)
	}
	return in, api.OK
}
