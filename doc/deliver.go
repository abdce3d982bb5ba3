package doc

import (
	"slices"

	"osier/api"
	"osier/causal"
	"osier/ops"
	"osier/vector"
)

// Deliver is told an operation: what is taken in by it, in order.
func (d *Doc) Deliver(o api.Op) ([]api.Op, api.Errno) {
	if d == nil {
		return nil, api.ErrArg
	}
	ready := causal.Ready(d.version, o)
	if e := d.refused(o.Id, ready); e != api.OK {
		return nil, e
	}
	told := d.keep(o)
	if ready != api.OK {
		d.waiting = among(d.waiting, told)
		d.look([]*api.Op{told})
		return nil, api.OK
	}
	in := d.settle(told)
	if d.found[told.Id] == nil {
		return nil, api.ErrOp
	}
	return copies(in), api.OK
}

// refused is why an operation isn't kept, by what Ready tells of it. That it comes early is no reason.
func (d *Doc) refused(id api.Dot, ready api.Errno) api.Errno {
	switch {
	case ready == api.ErrOp:
		return api.ErrOp
	case d.found[id] != nil:
		return api.ErrTwice
	case len(d.found) >= api.MaxOps:
		return api.ErrLimit
	}
	return api.OK
}

// keep makes an operation found, in memory of the document's own.
func (d *Doc) keep(o api.Op) *api.Op {
	if d.found == nil {
		d.found, d.behind = make(map[api.Dot]*api.Op), make(map[api.Dot][]*api.Op)
	}
	d.found[o.Id] = copied(&o)
	return d.found[o.Id]
}

// settle takes in one that is Ready, and then, again and again, the least of those that became so by it, as far as they aren't late: what was taken in, in that order.
// No other one can be Ready ahead of it: each call settles all that are.
func (d *Doc) settle(told *api.Op) []*api.Op {
	var in []*api.Op
	settled := 0
	for ready := []*api.Op{told}; len(ready) > 0; settled++ {
		o := ready[0]
		ready = ready[1:]
		if d.late(o) {
			delete(d.found, o.Id)
			continue
		}
		d.take(o)
		in = append(in, o)
		for _, free := range d.freed(o.Id) {
			ready = among(ready, free)
		}
	}
	// The one that was told never was among those that wait.
	if settled > 1 {
		d.sift()
	}
	return in
}

// late tells whether the Time of an operation that is Ready isn't above that of all that its Deps have.
// An actor's times rise, as each one's Deps have the one ahead of it: the last one of each actor stands for all ahead of it.
func (d *Doc) late(o *api.Op) bool {
	return slices.ContainsFunc(o.Deps, func(x api.Dot) bool { return d.found[x].Time >= o.Time })
}

// take takes an operation in.
func (d *Doc) take(o *api.Op) {
	d.version = vector.With(d.version, o.Id)
	d.in = among(d.in, o)
	d.state.Apply(*o)
}

// freed are those that are Ready now that the one that they lacked was taken in.
func (d *Doc) freed(id api.Dot) []*api.Op {
	row := d.behind[id]
	delete(d.behind, id)
	return d.look(row)
}

// look tells which of those that wait are Ready, and puts each other one under the first one that it lacks, so that it is looked at again with that one alone.
func (d *Doc) look(row []*api.Op) []*api.Op {
	var ready []*api.Op
	for _, o := range row {
		// All of them may be, and weren't taken in: Ready is what lacks nothing.
		lack := slices.IndexFunc(o.Deps, func(x api.Dot) bool { return !vector.Has(d.version, x) })
		if lack < 0 {
			ready = append(ready, o)
			continue
		}
		d.behind[o.Deps[lack]] = append(d.behind[o.Deps[lack]], o)
	}
	return ready
}

// sift deletes from what waits those that were taken in or thrown away.
func (d *Doc) sift() {
	d.waiting = slices.DeleteFunc(d.waiting, func(o *api.Op) bool {
		return d.found[o.Id] != o || vector.Has(d.version, o.Id)
	})
}

// among is a row with one more, at its place by ops.Less.
func among(row []*api.Op, o *api.Op) []*api.Op {
	at, _ := slices.BinarySearchFunc(row, o, func(a, b *api.Op) int {
		if ops.Less(*a, *b) {
			return -1
		}
		return 1
	})
	return slices.Insert(row, at, o)
}
