package vector_test

import (
	"bytes"
	"fmt"
	"slices"
	"testing"

	"osier/api"
	"osier/dots"
	"osier/num"
	"osier/vector"
)

// heads are the bytes that may lie ahead; one has room behind it that isn't to be used.
func heads() [][]byte {
	room := append([]byte("abc"), bytes.Repeat([]byte{0xa5}, 5000)...)
	return [][]byte{nil, {}, {0}, {255, 128, 0}, room[:3], bytes.Repeat([]byte("h"), 300)}
}

// bytesOf are a row's bytes: those of its length, and of each dot's two numbers.
func bytesOf(v api.Vector) []byte {
	b := num.Uint(nil, uint64(len(v)))
	for _, d := range v {
		b = append(b, num.Int(nil, d.Act)...)
		b = append(b, num.Int(nil, d.Seq)...)
	}
	return b
}

// checkPut looks at what Put lays behind each head: the bytes, that they are new memory, and that the head, the room behind it, and the vector stay as they were.
func checkPut(t *testing.T, v api.Vector, want []byte) {
	t.Helper()
	v = roomy(v)
	wasV := slices.Clone(whole(v))
	for _, head := range heads() {
		room := head[:cap(head)]
		was := bytes.Clone(room)
		behind := append(bytes.Clone(head), want...)
		got := vector.Put(head, v)
		if !bytes.Equal(got, behind) {
			t.Errorf("Put of %v behind %v: %v, not %v", v, head, got, behind)
		}
		again := vector.Put(head, v)
		got = got[:cap(got)]
		for i := range got {
			got[i] ^= 0xff
		}
		if !bytes.Equal(room, was) || !slices.Equal(whole(v), wasV) {
			t.Errorf("Put of %v behind %v: what was handed in is changed", wasV, was)
		}
		for i := range room {
			room[i] ^= 0xff
		}
		if !bytes.Equal(again, behind) {
			t.Errorf("Put of %v behind %v: what is answered shares memory", v, was)
		}
	}
}

// P4.4: bytes written out.
func TestPutWrittenOut(t *testing.T) {
	for _, c := range []struct {
		v    api.Vector
		want string
	}{
		{nil, "\x00"},
		{api.Vector{}, "\x00"},
		{vec(0, 1), "\x01\x00\x02"},
		{vec(1, 3, 2, 1), "\x02\x02\x06\x04\x02"},
		{vec(1, 64), "\x01\x02\x80\x80"},
		{vec(lastAct, lastSeq), "\x01\xe1\xff\xff\xfe\xf0\x80\x00\x00\x00"},
	} {
		checkPut(t, c.v, []byte(c.want))
	}
}

// P4.4: all vectors, one of so many dots that their number has two bytes.
func TestPut(t *testing.T) {
	for _, v := range vectors() {
		checkPut(t, v, bytesOf(v))
	}
	var v api.Vector
	for act := range 128 {
		v = append(v, dot(act, 1))
		if n := len(vector.Put(nil, v)); act < 63 && n != 1+2*len(v) {
			t.Errorf("%d bytes of %d dots", n, len(v))
		}
	}
	if b := vector.Put(nil, v); b[0] != 128 || b[1] != 128 {
		t.Errorf("128 dots: %v", b[:2])
	}
}

// P4.4: Take reads just a vector's bytes, and leaves those behind them.
func TestTake(t *testing.T) {
	for _, v := range vectors() {
		b := append(bytesOf(v), 128, 5, 9)
		was := bytes.Clone(b)
		r := num.Read(b)
		got := vector.Take(r)
		if !slices.Equal(got, v) || r.Err() != api.OK || r.Left() != 3 {
			t.Errorf("Take of %v: %v, error %d, %d bytes left", b, got, r.Err(), r.Left())
		}
		if !bytes.Equal(b, was) {
			t.Errorf("Take of %v: the bytes are changed", v)
		}
		again := vector.Take(num.Read(b))
		spoil(got)
		clear(b)
		if !slices.Equal(again, v) {
			t.Errorf("Take of %v: what is answered shares memory", was)
		}
	}
}

// checkNone takes a vector of a reader that has, or comes to, an error.
func checkNone(t *testing.T, what string, r *num.Reader, want api.Errno) {
	t.Helper()
	for range 2 {
		if got := vector.Take(r); len(got) != 0 {
			t.Errorf("%s: %v, not none", what, got)
		}
		if e := r.Err(); e != want {
			t.Errorf("%s: error %d, not %d", what, e, want)
		}
		if r.Left() != 0 {
			t.Errorf("%s: %d bytes are left", what, r.Left())
		}
	}
}

// P4.4: bytes that end too early, at each place.
func TestTakeShort(t *testing.T) {
	for _, v := range vectors() {
		b := bytesOf(v)
		for n := range b {
			checkNone(t, fmt.Sprint(b[:n], " of ", b), num.Read(b[:n]), api.ErrShort)
		}
	}
}

// P4.4: a count that is more than the bytes can hold, of which each dot has two at least.
func TestTakeCount(t *testing.T) {
	for _, b := range [][]byte{
		{1}, {1, 0}, {2, 0, 2, 2}, {3, 0, 2, 2, 2, 4}, {127, 0, 2},
		append(num.Uint(nil, 1<<24), 0, 2),
		append(num.Uint(nil, 1<<31), 0, 2),
		append(num.Uint(nil, 1<<62), 0, 2),
		append(num.Uint(nil, 1<<63), 0, 2),
		append(num.Uint(nil, 1<<64-1), 0, 2),
		// The count is held against the bytes ahead of what they are.
		{3, 128, 5, 2, 2, 4},
	} {
		checkNone(t, fmt.Sprint(b), num.Read(b), api.ErrShort)
	}
	r := num.Read([]byte{1, 0, 2})
	if got := vector.Take(r); !slices.Equal(got, vec(0, 1)) || r.End() != api.OK {
		t.Errorf("just enough bytes: %v, error %d", got, r.Err())
	}
}

// P4.4: numbers that can't be read.
func TestTakeWrongNumbers(t *testing.T) {
	for _, b := range [][]byte{
		{128, 5, 0, 2}, {1, 128, 5, 2}, {1, 2, 128, 5}, {2, 2, 2, 128, 5, 2}, {2, 2, 2, 4, 128, 5}, {192, 0, 1, 0, 2},
		// What can't be read comes ahead of what may not be.
		{2, 0, 0, 128, 5, 2},
	} {
		checkNone(t, fmt.Sprint(b), num.Read(b), api.ErrForm)
	}
	// The dots that are read are no vector, yet the bytes end too early.
	for _, b := range [][]byte{{2, 0, 0, 2, 255}, {2, 2, 2, 2, 255}, {3, 2, 2, 2, 2, 0, 128}, {2, 1, 2, 128, 128}} {
		checkNone(t, fmt.Sprint(b), num.Read(b), api.ErrShort)
	}
}

// P4.4: dots that can be read and are no vector, with and without bytes behind them.
func TestTakeNoVector(t *testing.T) {
	rows := []api.Vector{
		vec(2, 4, 1, 3), vec(1, 1, 1, 1), vec(1, 1, 1, 2), vec(1, 2, 1, 1), vec(1, 1, 2, 1, 2, 2), vec(1, 1, 3, 1, 2, 1),
		{{}}, {api.Root()}, {api.Trash()}, vec(1, 1, 2, 0), vec(1, 0, 2, 1),
	}
	for _, d := range wrong() {
		rows = append(rows, api.Vector{d}, api.Vector{dot(0, 1), d}, api.Vector{d, dot(lastAct, 1)})
	}
	for _, v := range rows {
		b := bytesOf(v)
		checkNone(t, fmt.Sprint(v), num.Read(b), api.ErrForm)
		checkNone(t, fmt.Sprint(v, " with bytes behind"), num.Read(append(b, 0, 0, 0)), api.ErrForm)
	}
}

// P4.4: a reader that has an error keeps it, whatever bytes there are.
func TestTakeBehindAnError(t *testing.T) {
	for _, e := range []api.Errno{api.ErrArg, api.ErrOp, api.ErrForm, api.ErrShort, api.ErrSum} {
		r := num.Read(bytesOf(vec(1, 2)))
		r.Fail(e)
		checkNone(t, "a reader with an error", r, e)
		r = num.Read(bytesOf(vec(1, 0)))
		r.Fail(e)
		checkNone(t, "a reader with an error, of no vector", r, e)
	}
	r := num.Read([]byte{0, 0})
	if r.End() != api.ErrForm {
		t.Fatal("bytes are left")
	}
	checkNone(t, "a reader that was ended", r, api.ErrForm)
	checkNone(t, "no reader", nil, api.ErrArg)
	checkNone(t, "a new reader", new(num.Reader), api.ErrShort)
}

// P4.5: what is put is taken, one behind the other, and other things between them.
func TestPutTake(t *testing.T) {
	var b []byte
	for _, v := range vectors() {
		b = dots.Put(vector.Put(b, v), api.Root())
	}
	r := num.Read(b)
	for _, v := range vectors() {
		if got := vector.Take(r); !slices.Equal(got, v) {
			t.Fatalf("%v, not %v", got, v)
		}
		if d := dots.Take(r); d != api.Root() {
			t.Fatalf("%v behind %v", d, v)
		}
	}
	if e := r.End(); e != api.OK {
		t.Errorf("error %d", e)
	}
}

// P4.5: a vector of very many Acts, there and back.
func TestPutTakeLong(t *testing.T) {
	var v api.Vector
	for act := range 1 << 17 {
		v = append(v, dot(act*100, act+1))
	}
	r := num.Read(vector.Put(nil, v))
	if got := vector.Take(r); !vector.Same(got, v) || r.End() != api.OK {
		t.Errorf("%d dots of %d, error %d", len(got), len(v), r.Err())
	}
}

// P4.4, P4.5: any bytes are a vector's in one way alone, or none.
func FuzzBytes(f *testing.F) {
	f.Add([]byte{0})
	f.Add([]byte{2, 2, 6, 4, 2, 9})
	f.Add([]byte{2, 4, 2, 2, 6})
	f.Add([]byte{1, 128, 5, 2})
	f.Fuzz(func(t *testing.T, b []byte) {
		r := num.Read(b)
		got := vector.Take(r)
		if e := r.Err(); e != api.OK {
			checkNone(t, fmt.Sprint(b), num.Read(b), e)
			return
		}
		if n := len(b) - r.Left(); !bytes.Equal(vector.Put(nil, got), b[:n]) || !vector.May(got) {
			t.Errorf("Take of %v: %v", b, got)
		}
	})
}
