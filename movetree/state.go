package movetree

import (
	"cmp"
	"iter"
	"slices"

	"osier/api"
)

// place is where a block lies. The empty one is nowhere: nothing lies under Dot{}.
type place struct {
	parent api.Dot
	key    string
}

// move is a move as it came.
type move struct {
	id    api.Dot
	time  int
	block api.Dot
	place
}

// entry is a move, and beside it what is needed to undo it.
type entry struct {
	move
	took bool
	was  place // where the block lay ahead of the move
}

// state is where blocks lie.
type state struct {
	places map[api.Dot]place
	kids   map[api.Dot][]api.Dot // by parent, in order
}

// do does a move, if it takes effect, and keeps what was there ahead of it.
func (s *state) do(e *entry) {
	e.took, e.was = s.takes(e.move), s.places[e.block]
	if e.took {
		s.lift(e.block)
		s.lay(e.block, e.place)
	}
}

// undo brings back what was there ahead of a move; those that were done behind it are undone already.
func (s *state) undo(e *entry) {
	if !e.took {
		return
	}
	s.lift(e.block)
	if e.was != (place{}) {
		s.lay(e.block, e.was)
	}
}

// takes tells whether a move takes effect.
func (s *state) takes(m move) bool {
	if !s.holds(m.parent) {
		return false
	}
	// A block that is made now is above nothing yet.
	if !s.there(m.block) {
		return m.block == m.id
	}
	return m.block != m.parent && !s.above(m.block, m.parent)
}

// there tells whether a block is there.
func (s *state) there(b api.Dot) bool {
	_, there := s.places[b]
	return there
}

// holds tells whether blocks can lie under a dot.
func (s *state) holds(p api.Dot) bool {
	return p == api.Root() || p == api.Trash() || s.there(p)
}

// above tells whether a block is further up than another one.
func (s *state) above(b, low api.Dot) bool {
	for up := range s.up(low) {
		if up == b {
			return true
		}
	}
	return false
}

// up goes from a block's parent up to Root or Trash.
func (s *state) up(b api.Dot) iter.Seq[api.Dot] {
	return func(yield func(api.Dot) bool) {
		p, there := s.places[b]
		for there && yield(p.parent) {
			p, there = s.places[p.parent]
		}
	}
}

// lay puts a block that isn't there at a place.
func (s *state) lay(b api.Dot, p place) {
	if s.places == nil {
		s.places, s.kids = make(map[api.Dot]place), make(map[api.Dot][]api.Dot)
	}
	at := s.rank(b, p)
	s.places[b] = p
	s.kids[p.parent] = slices.Insert(s.kids[p.parent], at, b)
}

// lift takes a block away from its place, if it is there.
func (s *state) lift(b api.Dot) {
	p, there := s.places[b]
	if !there {
		return
	}
	at := s.rank(b, p)
	s.kids[p.parent] = slices.Delete(s.kids[p.parent], at, at+1)
	if len(s.kids[p.parent]) == 0 {
		delete(s.kids, p.parent)
	}
	delete(s.places, b)
}

// rank is how many of the blocks under a place's parent come ahead of a block that lies there.
func (s *state) rank(b api.Dot, p place) int {
	at, _ := slices.BinarySearchFunc(s.kids[p.parent], b, func(kid, b api.Dot) int {
		return cmp.Or(cmp.Compare(s.places[kid].key, p.key), order(kid, b))
	})
	return at
}
