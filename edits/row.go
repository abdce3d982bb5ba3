package edits

import (
	"slices"

	"osier/api"
	"osier/clock"
	"osier/doc"
	"osier/vector"
)

// issue issues a row of n operations. What each of them is beyond its head is made by a closure, which is told how many of the row are ahead of it, and its Id.
func issue(d *doc.Doc, c *clock.Clock, n int, made func(i int, id api.Dot) api.Op) ([]api.Op, api.Errno) {
	if e := refused(d, c, n); e != api.OK {
		return nil, e
	}
	c.See(d.Time())
	var row []api.Op
	for i := range n {
		// There is an Id for each: that is looked at ahead of the first one.
		id, time, _ := c.Next()
		o := made(i, id)
		o.Id, o.Time, o.Deps = id, time, d.Version()
		// One that turns out late, as others' operations waited for the one ahead of it, is told all the same.
		d.Deliver(o)
		row = append(row, o)
	}
	return row, api.OK
}

// refused is why a row of n operations can't be issued.
func refused(d *doc.Doc, c *clock.Clock, n int) api.Errno {
	version, waiting := d.Version(), d.Waiting()
	own := func(o api.Op) bool { return o.Id.Act == c.Actor() }
	switch {
	case c.Seq() != vector.Get(version, c.Actor()) || slices.ContainsFunc(waiting, own):
		return api.ErrArg
	// Of each actor just those were taken in that the version has.
	case vector.Count(version)+len(waiting) > api.MaxOps-n:
		return api.ErrLimit
	case c.Seq()+n > api.MaxSeq || max(c.Time(), d.Time())+n > api.MaxTime:
		return api.ErrSpent
	}
	return api.OK
}
