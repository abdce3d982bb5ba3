package disk

import (
	"osier/api"
)

// cut is when the power goes off, and what is left then.
type cut struct {
	ops  int // operations that are done ahead
	part int // how much is done of the one within which it goes off
	keep int // bytes that are kept of each file's tail
}

// Cut says when the power goes off.
func (d *Disk) Cut(ops, part, keep int) api.Errno {
	if d == nil || ops < 0 || part < 0 || keep < 0 {
		return api.ErrArg
	}
	if d.off {
		return api.ErrPower
	}
	d.cut = &cut{ops: ops, part: part, keep: keep}
	return api.OK
}

// Off tells whether the power is off.
func (d *Disk) Off() bool { return d != nil && d.off }

// On is the power, on again.
func (d *Disk) On() {
	if d == nil {
		return
	}
	d.off, d.cut = false, nil
}

// operate does an operation, or, if the power goes off within it, a part of it.
func (d *Disk) operate(do doing) api.Errno {
	switch {
	case d == nil:
		return api.ErrArg
	case d.off:
		return api.ErrPower
	case d.cut == nil:
		return do(whole)
	case d.cut.ops > 0:
		d.cut.ops--
		return do(whole)
	}
	// An error of its own isn't told: the power's is, whatever is done.
	do(d.cut.part)
	d.tear()
	return api.ErrPower
}

// tear is the power, off: each file's tail is torn, and what is kept of it is sure.
func (d *Disk) tear() {
	for _, f := range d.files {
		// What is kept may be more than can be added to what is sure.
		f.shorten(f.sure + min(d.cut.keep, len(f.bytes)-f.sure))
		f.sure = len(f.bytes)
	}
	d.off, d.cut = true, nil
}
