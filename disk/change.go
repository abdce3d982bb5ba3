package disk

import (
	"osier/api"
)

// whole is how much of an operation is done within which the power stays on. Of one within which it goes off some part is done, from 0 on.
const whole = -1

// doing is what an operation does, as it is told how much of that is done. Where it answers an error it does nothing.
type doing func(part int) api.Errno

// Append puts bytes at the end of a file, and makes it, if there is none.
func (d *Disk) Append(name string, b []byte) api.Errno {
	return d.operate(func(part int) api.Errno {
		if !may(name) {
			return api.ErrName
		}
		f := d.files[name]
		if len(b) > d.Room() || f == nil && len(d.files) >= api.MaxFiles {
			return api.ErrFull
		}
		if f == nil {
			f = d.add(name)
		}
		if part == whole {
			part = len(b)
		}
		f.bytes = append(f.bytes, b[:min(part, len(b))]...)
		return api.OK
	})
}

// Sync makes sure of a file's bytes.
func (d *Disk) Sync(name string) api.Errno {
	return d.operate(func(part int) api.Errno {
		f := d.files[name]
		if f == nil {
			return api.ErrNone
		}
		if part == whole {
			f.sure = len(f.bytes)
		}
		return api.OK
	})
}

// Rename gives a file another name; one of that name is gone.
func (d *Disk) Rename(from, to string) api.Errno {
	return d.operate(func(part int) api.Errno {
		if !may(to) {
			return api.ErrName
		}
		f := d.files[from]
		if f == nil {
			return api.ErrNone
		}
		if part != 0 {
			// In this order, as both names may be one.
			delete(d.files, from)
			d.name(f, to)
		}
		return api.OK
	})
}

// Remove removes a file.
func (d *Disk) Remove(name string) api.Errno {
	return d.operate(func(part int) api.Errno {
		if d.files[name] == nil {
			return api.ErrNone
		}
		if part != 0 {
			delete(d.files, name)
		}
		return api.OK
	})
}

// Shorten leaves a file its first bytes.
func (d *Disk) Shorten(name string, n int) api.Errno {
	return d.operate(func(part int) api.Errno {
		f := d.files[name]
		if f == nil {
			return api.ErrNone
		}
		if n < 0 {
			return api.ErrArg
		}
		if part != 0 {
			f.shorten(n)
		}
		return api.OK
	})
}
