package ops_test

import (
	"bytes"
	"fmt"
	"slices"
	"strings"
	"testing"

	"osier/api"
	"osier/num"
	"osier/ops"
)

// distinct are the operations, each once, told apart by all that is in them.
func distinct(l []api.Op) []api.Op {
	seen := map[string]bool{}
	var out []api.Op
	for _, o := range l {
		if text := fmt.Sprintf("%+v", o); !seen[text] {
			seen[text] = true
			out = append(out, o)
		}
	}
	return out
}

// ints are the bytes of numbers of either sign.
func ints(l ...int) []byte {
	var b []byte
	for _, n := range l {
		b = num.Int(b, n)
	}
	return b
}

// headOf are an operation's bytes up to its Kind, in the promise's order.
func headOf(o api.Op) []byte {
	b := ints(o.Id.Act, o.Id.Seq, o.Time)
	b = num.Uint(b, uint64(len(o.Deps)))
	for _, d := range o.Deps {
		b = append(b, ints(d.Act, d.Seq)...)
	}
	return append(b, ints(o.Kind)...)
}

// bytesOf are an operation's bytes, in the promise's order; of an unknown kind those up to its Block.
func bytesOf(o api.Op) []byte {
	b := append(headOf(o), ints(o.Block.Act, o.Block.Seq)...)
	switch o.Kind {
	case api.Insert:
		return append(b, ints(o.At.Act, o.At.Seq, o.Side, o.Char)...)
	case api.Delete:
		return append(b, ints(o.At.Act, o.At.Seq)...)
	case api.Move:
		return num.Text(append(b, ints(o.Parent.Act, o.Parent.Seq)...), o.Key)
	}
	return b
}

// heads are the bytes that may lie ahead; one has room behind it that isn't to be used.
func heads() [][]byte {
	room := append([]byte("abc"), bytes.Repeat([]byte{0xa5}, 5000)...)
	return [][]byte{nil, {}, {0}, {255, 128, 0}, room[:3], bytes.Repeat([]byte("h"), 300)}
}

// putKeeps puts an operation behind a head, twice, spoils the first answer and what was handed in, and tells the second one. It looks that none of them shares memory.
func putKeeps(t *testing.T, head []byte, o api.Op) []byte {
	t.Helper()
	room := bytes.Clone(head[:cap(head)])
	b := room[:len(head)]
	deps := append(slices.Clone(o.Deps), dot(9, 9), dot(9, 9))
	o.Deps = deps[:len(o.Deps)]
	wasRoom, wasDeps := bytes.Clone(room), slices.Clone(deps)
	spoilt, got := ops.Put(b, o), ops.Put(b, o)
	want := bytes.Clone(got)
	spoilt = spoilt[:cap(spoilt)]
	for i := range spoilt {
		spoilt[i] ^= 0xff
	}
	if !bytes.Equal(room, wasRoom) || !slices.Equal(deps, wasDeps) {
		t.Errorf("Put of %+v behind %v: what was handed in is changed", o, head)
	}
	for i := range room {
		room[i] ^= 0xff
	}
	clear(deps)
	if !bytes.Equal(got, want) {
		t.Errorf("Put of %+v behind %v: what is answered shares memory", o, head)
	}
	return got
}

// P7.2: bytes written out.
func TestPutWrittenOut(t *testing.T) {
	for _, c := range []struct {
		o    api.Op
		want string
	}{
		{api.Op{Id: dot(1, 1), Time: 1, Kind: api.Move, Block: dot(1, 1), Parent: api.Root(), Key: "n"}, "\x02\x02\x02\x00\x06\x02\x02\x00\x01\x01n"},
		{insert(), "\x06\x0a\x14\x03\x02\x04\x06\x08\x0e\x12\x02\x02\x04\x06\x02\x00\x80\xf0"},
		{with(insert(), func(o *api.Op) { o.At, o.Side, o.Char = api.Dot{}, api.Right, api.MaxChar }), "\x06\x0a\x14\x03\x02\x04\x06\x08\x0e\x12\x02\x02\x04\x00\x00\x02\xe0\x21\xff\xfe"},
		{remove(), "\x06\x0a\x14\x03\x02\x04\x06\x08\x0e\x12\x04\x02\x04\x0e\x12"},
		{move(), "\x06\x0a\x14\x03\x02\x04\x06\x08\x0e\x12\x06\x02\x04\x0e\x06\x02bn"},
		{with(create(), func(o *api.Op) { o.Parent, o.Time = api.Trash(), api.MaxTime }), "\x06\x0a\xfa\x00\x00\x00\x00\x00\x03\x02\x04\x06\x08\x0e\x12\x06\x06\x0a\x00\x03\x01n"},
		{with(create(), func(o *api.Op) { o.Key = strings.Repeat("z", 200) }), "\x06\x0a\x14\x03\x02\x04\x06\x08\x0e\x12\x06\x06\x0a\x00\x01\x80\xc8" + strings.Repeat("z", 200)},
	} {
		for _, head := range heads() {
			if got := putKeeps(t, head, c.o); string(got) != string(head)+c.want {
				t.Errorf("Put of %+v behind %v: %v", c.o, head, got)
			}
		}
	}
}

// P7.2: all operations, by the promise's order.
func TestPut(t *testing.T) {
	for _, o := range right() {
		want := bytesOf(o)
		for _, head := range heads() {
			if got := putKeeps(t, head, o); !bytes.Equal(got, slices.Concat(head, want)) {
				t.Errorf("Put of %+v behind %v: %v", o, head, got)
			}
		}
	}
}

// P7.2: what may not be has some bytes, and nothing is changed.
func TestPutWrong(t *testing.T) {
	for _, o := range wrong() {
		for _, head := range heads() {
			putKeeps(t, head, o)
		}
	}
}

// P7.3: Take reads just an operation's bytes, leaves those behind them, and shares nothing with them.
func TestTake(t *testing.T) {
	for _, o := range right() {
		b := append(bytesOf(o), 128, 5, 9)
		was := bytes.Clone(b)
		r := num.Read(b)
		got := ops.Take(r)
		if !ops.Same(got, o) || r.Err() != api.OK || r.Left() != 3 {
			t.Errorf("Take of %v: %+v, error %d, %d bytes left", b, got, r.Err(), r.Left())
		}
		if !bytes.Equal(b, was) {
			t.Errorf("Take of %+v: the bytes are changed", o)
		}
		again := ops.Take(num.Read(b))
		clear(got.Deps)
		clear(b)
		if !ops.Same(again, o) {
			t.Errorf("Take of %v: what is answered shares memory", was)
		}
	}
}

// checkEmpty takes an operation of a reader that has, or comes to, an error.
func checkEmpty(t *testing.T, what string, r *num.Reader, want api.Errno) {
	t.Helper()
	for range 2 {
		if got := ops.Take(r); !ops.Same(got, api.Op{}) {
			t.Errorf("%s: %+v, not empty", what, got)
		}
		if e := r.Err(); e != want {
			t.Errorf("%s: error %d, not %d", what, e, want)
		}
		if r.Left() != 0 {
			t.Errorf("%s: %d bytes are left", what, r.Left())
		}
	}
}

// P7.3: bytes that end too early, at each place.
func TestTakeShort(t *testing.T) {
	for _, o := range right() {
		b := bytesOf(o)
		for n := range b {
			checkEmpty(t, fmt.Sprint(b[:n], " of ", b), num.Read(b[:n]), api.ErrShort)
		}
	}
}

// P7.3: that bytes end too early comes ahead of all that may not be.
func TestTakeShortAndWrong(t *testing.T) {
	for _, o := range slices.Concat(wrongHeads(), wrongParts()) {
		b := bytesOf(o)
		for n := range min(len(b), 40) {
			checkEmpty(t, fmt.Sprint(b[:n], " of ", b), num.Read(b[:n]), api.ErrShort)
		}
		checkEmpty(t, fmt.Sprint(b, " without its last byte"), num.Read(b[:len(b)-1]), api.ErrShort)
	}
}

// P7.3: a kind that is none of the three, whatever lies ahead of it and behind it.
func TestTakeKind(t *testing.T) {
	for _, o := range unkind() {
		b := headOf(o)
		for _, tail := range [][]byte{nil, {2}, {128, 5}, {2, 4}, {2, 4, 6, 2, 0, 0}, {255}, bytesOf(create())} {
			checkEmpty(t, fmt.Sprintf("kind %d, %v behind", o.Kind, tail), num.Read(slices.Concat(b, tail)), api.ErrForm)
		}
	}
	for _, o := range wrongHeads() {
		for _, o.Kind = range noKinds() {
			checkEmpty(t, fmt.Sprintf("%+v", o), num.Read(headOf(o)), api.ErrForm)
		}
	}
	checkEmpty(t, "nothing but 0", num.Read(make([]byte, 5)), api.ErrForm)
}

// P7.3: what can be read and may not be, with and without bytes behind it.
func TestTakeWrong(t *testing.T) {
	for _, o := range slices.Concat(wrongHeads(), wrongParts()) {
		b := bytesOf(o)
		checkEmpty(t, fmt.Sprintf("%+v", o), num.Read(b), api.ErrOp)
		checkEmpty(t, fmt.Sprintf("%+v, bytes behind", o), num.Read(append(b, 0, 0, 0)), api.ErrOp)
	}
}

// P7.3: Deps that are no vector are told as chapter 4 tells them, as soon as they are read.
func TestTakeDeps(t *testing.T) {
	for _, o := range unvectored() {
		b := bytesOf(o)
		checkEmpty(t, fmt.Sprintf("%+v", o), num.Read(b), api.ErrForm)
		kind := headOf(o)
		checkEmpty(t, fmt.Sprintf("%+v, cut", o), num.Read(kind[:len(kind)-1]), api.ErrForm)
	}
	// A count of dots that the bytes can't hold.
	checkEmpty(t, "too many dots", num.Read([]byte{6, 10, 20, 127, 2, 4, 6, 8}), api.ErrShort)
}

// P7.3: numbers in more bytes than they need, in each place; ahead of all that may not be.
func TestTakeWrongNumbers(t *testing.T) {
	for _, b := range [][]byte{
		{128, 5, 2, 2, 0, 6, 2, 2, 0, 1, 1, 'n'},
		{2, 128, 5, 2, 0, 6, 2, 2, 0, 1, 1, 'n'},
		{2, 2, 128, 5, 0, 6, 2, 2, 0, 1, 1, 'n'},
		{2, 2, 2, 128, 0, 6, 2, 2, 0, 1, 1, 'n'},
		{2, 2, 2, 0, 128, 6, 2, 2, 0, 1, 1, 'n'},
		{2, 2, 2, 0, 6, 128, 2, 2, 0, 1, 1, 'n'},
		{2, 2, 2, 0, 6, 2, 128, 2, 0, 1, 1, 'n'},
		{2, 2, 2, 0, 6, 2, 2, 128, 0, 1, 1, 'n'},
		{2, 2, 2, 0, 6, 2, 2, 0, 128, 1, 1, 'n'},
		{2, 2, 2, 0, 6, 2, 2, 0, 1, 128, 1, 'n'},
		{2, 2, 0, 0, 6, 2, 2, 0, 1, 128, 1, 'n'},
		{2, 4, 4, 1, 2, 2, 2, 2, 2, 128, 5, 2, 0, 0},
		{2, 4, 4, 1, 2, 2, 2, 2, 2, 2, 128, 2, 0, 0},
		{2, 4, 4, 1, 2, 2, 2, 2, 2, 2, 2, 128, 2, 0},
		{2, 4, 4, 1, 2, 2, 2, 2, 2, 2, 2, 0, 128, 2},
		{2, 4, 4, 1, 2, 2, 4, 2, 2, 2, 128, 2},
	} {
		checkEmpty(t, fmt.Sprint(b), num.Read(b), api.ErrForm)
	}
}

// P7.3: a reader that has an error keeps it, whatever bytes there are.
func TestTakeBehindAnError(t *testing.T) {
	for _, e := range []api.Errno{api.ErrArg, api.ErrOp, api.ErrForm, api.ErrShort, api.ErrSum, api.ErrEarly} {
		for _, o := range []api.Op{insert(), remove(), move(), {}, unkind()[0]} {
			r := num.Read(bytesOf(o))
			r.Fail(e)
			checkEmpty(t, "a reader with an error", r, e)
		}
	}
	checkEmpty(t, "no reader", nil, api.ErrArg)
	checkEmpty(t, "a new reader", new(num.Reader), api.ErrShort)
}

// P7.4: what is put is taken, one behind the other, with other things between them.
func TestPutTake(t *testing.T) {
	var b []byte
	for _, o := range right() {
		b = num.Text(ops.Put(b, o), "between")
	}
	r := num.Read(b)
	for _, o := range right() {
		if got := ops.Take(r); !ops.Same(got, o) {
			t.Fatalf("%+v, not %+v", got, o)
		}
		if s := r.Text(); s != "between" {
			t.Fatalf("%q behind %+v", s, o)
		}
	}
	if e := r.End(); e != api.OK {
		t.Errorf("error %d", e)
	}
}

// P7.4: an operation with very many Deps, there and back.
func TestPutTakeLong(t *testing.T) {
	o := api.Op{Id: dot(0, 1), Time: 5, Kind: api.Delete, Block: dot(100, 1), At: dot(1<<23, 1<<16)}
	for act := range 1 << 17 {
		o.Deps = append(o.Deps, dot((act+1)*100, act+1))
	}
	o.At = o.Deps[len(o.Deps)-1]
	r := num.Read(ops.Put(nil, o))
	if got := ops.Take(r); !ops.Same(got, o) || r.End() != api.OK {
		t.Errorf("%d Deps, error %d", len(got.Deps), r.Err())
	}
}

// P7.4: operations that aren't the same have other bytes, none of which begins another one's.
func TestOtherBytes(t *testing.T) {
	l := distinct(right())
	if len(l) < 150 {
		t.Fatalf("%d operations alone", len(l))
	}
	put := make([][]byte, len(l))
	for i, o := range l {
		put[i] = ops.Put(nil, o)
	}
	for i, a := range put {
		for j, b := range put {
			if i != j && bytes.HasPrefix(b, a) {
				t.Errorf("%v of %+v begins that of %+v", a, l[i], l[j])
			}
		}
	}
}

// P7.3, P7.4: any bytes are an operation's in one way alone, or none.
func FuzzBytes(f *testing.F) {
	for _, o := range kinds() {
		f.Add(bytesOf(o))
	}
	for _, o := range []api.Op{wrongHeads()[0], wrongParts()[0], unkind()[0], unvectored()[0]} {
		f.Add(append(bytesOf(o), 7))
	}
	f.Fuzz(func(t *testing.T, b []byte) {
		r := num.Read(b)
		got := ops.Take(r)
		if e := r.Err(); e != api.OK {
			if e != api.ErrShort && e != api.ErrForm && e != api.ErrOp {
				t.Errorf("Take of %v: error %d", b, e)
			}
			checkEmpty(t, fmt.Sprint(b), num.Read(b), e)
			return
		}
		if n := len(b) - r.Left(); !bytes.Equal(ops.Put(nil, got), b[:n]) || !bytes.Equal(bytesOf(got), b[:n]) || !ops.Check(got) {
			t.Errorf("Take of %v: %+v", b, got)
		}
	})
}
