package snap

import (
	"slices"

	"osier/api"
	"osier/disk"
	"osier/frame"
	"osier/num"
)

// Save replaces a file by a number and bytes.
func Save(d *disk.Disk, name string, gen int, b []byte) api.Errno {
	if d == nil || gen < 0 {
		return api.ErrArg
	}
	fresh := name + ".new"
	// What a name is an empty disk tells: an operation of d's own might be the one within which its power goes off.
	if e := disk.New(0).Append(fresh, nil); e != api.OK {
		return e
	}
	framed, e := frame.Frame(append(num.Int(nil, gen), b...))
	if e != api.OK {
		return e
	}
	if d.Off() {
		return api.ErrPower
	}
	return replace(d, name, fresh, framed)
}

// replace puts bytes into a fresh file, and that in the place of another one: not before it is sure, so that one of both is there whenever the power goes off.
func replace(d *disk.Disk, name, fresh string, b []byte) api.Errno {
	if e := away(d, fresh); e != api.OK {
		return e
	}
	if e := d.Append(fresh, b); e != api.OK {
		return e
	}
	if e := d.Sync(fresh); e != api.OK {
		return e
	}
	return d.Rename(fresh, name)
}

// away removes a file, if there is one.
func away(d *disk.Disk, name string) api.Errno {
	if !slices.Contains(d.Names(), name) {
		return api.OK
	}
	return d.Remove(name)
}

// Load is a file's number and bytes.
func Load(d *disk.Disk, name string) (int, []byte, api.Errno) {
	if d == nil {
		return 0, nil, api.ErrArg
	}
	b, e := d.Read(name)
	if e != api.OK {
		return 0, nil, e
	}
	body, behind, e := frame.Next(b)
	if e != api.OK {
		return 0, nil, e
	}
	if len(behind) > 0 {
		return 0, nil, api.ErrForm
	}
	return cut(body)
}

// cut is a body's number, and what lies behind it.
func cut(body []byte) (int, []byte, api.Errno) {
	r := num.Read(body)
	gen := r.Int()
	if e := r.Err(); e != api.OK {
		return 0, nil, e
	}
	if gen < 0 {
		return 0, nil, api.ErrForm
	}
	// The body is a copy of its own, as frame tells it. What its memory has beyond it isn't handed out.
	at, end := len(body)-r.Left(), len(body)
	return gen, body[at:end:end], api.OK
}
