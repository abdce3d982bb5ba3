package dots_test

import (
	"bytes"
	"fmt"
	"math"
	"testing"

	"osier/api"
	"osier/dots"
	"osier/num"
)

// heads are the bytes that may lie ahead; one has room behind it that isn't to be used.
func heads() [][]byte {
	room := append([]byte("abc"), bytes.Repeat([]byte{0xa5}, 64)...)
	return [][]byte{nil, {}, {0}, {255, 128, 0}, room[:3], bytes.Repeat([]byte("h"), 300)}
}

// checkPut looks at what Put lays behind each head: the bytes, that they are new memory, and that the head, and the room behind it, stays as it was.
func checkPut(t *testing.T, d api.Dot, want []byte) {
	t.Helper()
	for _, head := range heads() {
		room := head[:cap(head)]
		was := bytes.Clone(room)
		behind := append(bytes.Clone(head), want...)
		got := dots.Put(head, d)
		if !bytes.Equal(got, behind) {
			t.Errorf("Put of %v behind %v: %v, not %v", d, head, got, behind)
		}
		again := dots.Put(head, d)
		got = got[:cap(got)]
		for i := range got {
			got[i] ^= 0xff
		}
		if !bytes.Equal(room, was) {
			t.Errorf("Put of %v behind %v: what was handed in is changed", d, was)
		}
		for i := range room {
			room[i] ^= 0xff
		}
		if !bytes.Equal(again, behind) {
			t.Errorf("Put of %v behind %v: what is answered shares memory", d, was)
		}
	}
}

// P3.3: bytes written out.
func TestPutWrittenOut(t *testing.T) {
	for _, c := range []struct {
		d    api.Dot
		want string
	}{
		{dot(0, 0), "\x00\x00"},
		{dot(1, 2), "\x02\x04"},
		{dot(2, 1), "\x04\x02"},
		{dot(0, -1), "\x00\x01"},
		{dot(0, -2), "\x00\x03"},
		{dot(-1, 0), "\x01\x00"},
		{dot(63, -64), "\x7e\x7f"},
		{dot(64, -65), "\x80\x80\x80\x81"},
		{dot(1<<24-1, 1<<30), "\xe1\xff\xff\xfe\xf0\x80\x00\x00\x00"},
		{dot(math.MaxInt, math.MinInt), "\xff\xff\xff\xff\xff\xff\xff\xff\xfe\xff\xff\xff\xff\xff\xff\xff\xff\xff"},
		{dot(math.MinInt, math.MaxInt), "\xff\xff\xff\xff\xff\xff\xff\xff\xff\xff\xff\xff\xff\xff\xff\xff\xff\xfe"},
	} {
		checkPut(t, c.d, []byte(c.want))
	}
}

// bytesOf are a dot's bytes: those of its two numbers.
func bytesOf(d api.Dot) []byte {
	return append(num.Int(nil, d.Act), num.Int(nil, d.Seq)...)
}

// P3.3: any numbers, of either sign.
func TestPutOfAny(t *testing.T) {
	for _, d := range wild() {
		checkPut(t, d, bytesOf(d))
	}
}

// P3.3: Take reads just a dot's bytes, and leaves those behind them.
func TestTake(t *testing.T) {
	for _, d := range wild() {
		b := append(bytesOf(d), 128, 5)
		r := num.Read(b)
		if got := dots.Take(r); got != d || r.Err() != api.OK || r.Left() != 2 {
			t.Errorf("Take of %v: %v, error %d, %d bytes left", b, got, r.Err(), r.Left())
		}
		if !bytes.Equal(b, append(bytesOf(d), 128, 5)) {
			t.Errorf("Take of %v: the bytes are changed", d)
		}
	}
}

// checkNone takes a dot of a reader that has, or comes to, an error.
func checkNone(t *testing.T, what string, r *num.Reader, want api.Errno) {
	t.Helper()
	for range 2 {
		if got := dots.Take(r); got != (api.Dot{}) {
			t.Errorf("%s: %v, not the empty dot", what, got)
		}
		if e := r.Err(); e != want {
			t.Errorf("%s: error %d, not %d", what, e, want)
		}
		if r.Left() != 0 {
			t.Errorf("%s: %d bytes are left", what, r.Left())
		}
	}
}

// P3.3: bytes that end too early, at each place.
func TestTakeShort(t *testing.T) {
	for _, d := range wild() {
		b := bytesOf(d)
		for n := range b {
			checkNone(t, fmt.Sprint(b[:n], " of ", b), num.Read(b[:n]), api.ErrShort)
		}
	}
}

// P3.3: bytes that are no number, as the first one and as the second one.
func TestTakeWrong(t *testing.T) {
	for _, c := range []struct {
		b    string
		want api.Errno
	}{
		{"", api.ErrShort},
		{"\x80\x05\x02", api.ErrForm},
		{"\x02\x80\x05", api.ErrForm},
		{"\x02\x80\x05\x02\x02", api.ErrForm},
		{"\xc0\x00\x01\x02", api.ErrForm},
		{"\x02\xc0\x3f\xff", api.ErrForm},
		{"\xff\x00\xff\xff\xff\xff\xff\xff\xff\x02", api.ErrForm},
		{"\x02\xff\x00\xff\xff\xff\xff\xff\xff\xff", api.ErrForm},
		{"\x80", api.ErrShort},
		{"\x02\x80", api.ErrShort},
		{"\xff\x02\x02", api.ErrShort},
		{"\x02\xff\x02\x02", api.ErrShort},
		{"\x80\x05\xff", api.ErrForm},
	} {
		checkNone(t, fmt.Sprint([]byte(c.b)), num.Read([]byte(c.b)), c.want)
	}
}

// P3.3: a reader that has an error keeps it, whatever bytes there are.
func TestTakeBehindAnError(t *testing.T) {
	for _, e := range []api.Errno{api.ErrArg, api.ErrOp, api.ErrForm, api.ErrShort} {
		r := num.Read(dots.Put(nil, dot(1, 2)))
		r.Fail(e)
		checkNone(t, "a reader with an error", r, e)
	}
	r := num.Read([]byte{2, 4, 6, 8})
	if r.End() != api.ErrForm {
		t.Fatal("bytes are left")
	}
	checkNone(t, "a reader that was ended", r, api.ErrForm)
	checkNone(t, "no reader", nil, api.ErrArg)
	checkNone(t, "a new reader", new(num.Reader), api.ErrShort)
}

// P3.4: what is put is taken, one behind the other.
func TestPutTake(t *testing.T) {
	var b []byte
	for _, d := range wild() {
		b = dots.Put(b, d)
	}
	r := num.Read(b)
	for _, d := range wild() {
		if got := dots.Take(r); got != d {
			t.Fatalf("%v, not %v", got, d)
		}
	}
	if e := r.End(); e != api.OK {
		t.Errorf("error %d", e)
	}
}

// P3.3, P3.4: any numbers are taken as they were put; any bytes are a dot's in one way alone, or none.
func FuzzBytes(f *testing.F) {
	f.Add(1, 2, []byte{2, 4})
	f.Add(math.MinInt, math.MaxInt, []byte{128, 5, 0})
	f.Fuzz(func(t *testing.T, act, seq int, b []byte) {
		d := dot(act, seq)
		checkPut(t, d, bytesOf(d))
		r := num.Read(dots.Put(b, d)[len(b):])
		if got := dots.Take(r); got != d || r.End() != api.OK {
			t.Errorf("%v, not %v; error %d", got, d, r.Err())
		}
		r = num.Read(b)
		got := dots.Take(r)
		if e := r.Err(); e != api.OK {
			checkNone(t, fmt.Sprint(b), num.Read(b), e)
		} else if n := len(b) - r.Left(); !bytes.Equal(bytesOf(got), b[:n]) {
			t.Errorf("Take of %v: %v", b, got)
		}
	})
}
