package num

import (
	"osier/api"
)

// Reader reads bytes.
type Reader struct {
	// rest is empty from an error on: so nothing is read any more, without a look at the error.
	rest []byte
	err  api.Errno
}

// Read is a reader of bytes.
func Read(b []byte) *Reader { return &Reader{rest: b} }

// Uint is the next number.
func (r *Reader) Uint() uint64 {
	if r.Left() == 0 {
		r.Fail(api.ErrShort)
		return 0
	}
	k := said(r.rest[0])
	if k > len(r.rest) {
		r.Fail(api.ErrShort)
		return 0
	}
	n := join(r.rest[:k])
	if size(n) != k {
		r.Fail(api.ErrForm)
		return 0
	}
	r.rest = r.rest[k:]
	return n
}

// Int is the next number of either sign.
func (r *Reader) Int() int {
	twice := r.Uint()
	n := int(twice >> 1)
	if twice<<63 != 0 {
		return ^n
	}
	return n
}

// Text is the next text.
func (r *Reader) Text() string {
	n := r.Count(1)
	if n == 0 {
		return ""
	}
	s := string(r.rest[:n])
	r.rest = r.rest[n:]
	return s
}

// Count is the next number, of things that have at least so many bytes each.
func (r *Reader) Count(least int) int {
	n := r.Uint()
	// A quotient, since the product might be too great for any int.
	if n > uint64(r.Left()/max(least, 1)) {
		r.Fail(api.ErrShort)
		return 0
	}
	return int(n)
}

// Left is how many bytes are left.
func (r *Reader) Left() int {
	if r == nil {
		return 0
	}
	return len(r.rest)
}

// Fail makes an error, if there is none.
func (r *Reader) Fail(e api.Errno) {
	if r == nil || r.err != api.OK || e == api.OK {
		return
	}
	r.err = e
	r.rest = nil
}

// Err is the first error.
func (r *Reader) Err() api.Errno {
	if r == nil {
		return api.ErrArg
	}
	return r.err
}

// End is the first error; that bytes are left is one, which stays like any other.
func (r *Reader) End() api.Errno {
	if r.Left() > 0 {
		r.Fail(api.ErrForm)
	}
	return r.Err()
}
