package ops

import (
	"slices"

	"osier/api"
	"osier/dots"
	"osier/num"
	"osier/vector"
)

// Put is an operation's bytes, behind some.
func Put(b []byte, o api.Op) []byte {
	// Behind nothing, and put together once: each call copies what lies ahead, which would be all of it for each field.
	first := num.Int(dots.Put(nil, o.Id), o.Time)
	deps := vector.Put(nil, o.Deps)
	what := dots.Put(num.Int(nil, o.Kind), o.Block)
	return slices.Concat(b, first, deps, what, putParts(o))
}

// putParts are the bytes of what an operation has beyond its head.
func putParts(o api.Op) []byte {
	p := partsOf(o.Kind)
	var b []byte
	if p.at {
		b = dots.Put(b, o.At)
	}
	if p.char {
		b = num.Int(num.Int(b, o.Side), o.Char)
	}
	if p.place {
		b = num.Text(dots.Put(b, o.Parent), o.Key)
	}
	return b
}

// Take is the next operation.
func Take(r *num.Reader) api.Op {
	var o api.Op
	o.Id = dots.Take(r)
	o.Time = r.Int()
	o.Deps = vector.Take(r)
	o.Kind = r.Int()
	p := partsOf(o.Kind)
	if p == (parts{}) {
		r.Fail(api.ErrForm)
	}
	o.Block = dots.Take(r)
	takeParts(r, p, &o)
	// A reader keeps its first error: this one is told only if all could be read.
	if !Check(o) {
		r.Fail(api.ErrOp)
	}
	if r.Err() != api.OK {
		return api.Op{}
	}
	return o
}

// takeParts reads what an operation has beyond its head, in the order in which it is put.
func takeParts(r *num.Reader, p parts, o *api.Op) {
	if p.at {
		o.At = dots.Take(r)
	}
	if p.char {
		o.Side = r.Int()
		o.Char = r.Int()
	}
	if p.place {
		o.Parent = dots.Take(r)
		o.Key = r.Text()
	}
}
