package frame_test

import (
	"bytes"
	"fmt"
	"slices"
	"testing"

	"osier/api"
	"osier/frame"
)

// chain is the frames of bodies, one behind the other.
func chain(bodies [][]byte) []byte {
	var b []byte
	for _, body := range bodies {
		b = append(b, frameByWords(body)...)
	}
	return b
}

// chains are rows of bodies: none, one, many.
func chains() [][][]byte {
	l := [][][]byte{nil, {nil}, {[]byte("ab")}, {nil, nil, nil}, {[]byte("a"), nil, []byte("bc")}, bodies()}
	var many [][]byte
	for i := range 400 {
		many = append(many, row(i%23, uint32(i)))
	}
	return append(l, many)
}

// tails are bytes that begin with no frame.
func tails() [][]byte {
	broken := frameByWords([]byte("broken"))
	broken[5] ^= 4
	l := [][]byte{nil, {0}, {7}, {1, 2, 3}, {0, 0, 0, 0}, make([]byte, 8), make([]byte, 100), bytes.Repeat([]byte{255}, 30),
		broken, append(bytes.Clone(broken), chain(bodies())...), append([]byte{1, 0, 64, 0}, row(200, 1)...), append([]byte{0, 0, 64, 0}, row(200, 1)...)}
	whole := frameByWords([]byte("cut short"))
	for n := range whole {
		l = append(l, whole[:n])
	}
	return l
}

// checkSplit looks for bodies and an offset.
func checkSplit(t *testing.T, what string, b []byte, want [][]byte, at int) {
	t.Helper()
	got, gotAt := frame.Split(b)
	if !slices.EqualFunc(got, want, bytes.Equal) {
		t.Errorf("%s: %d bodies, not %d, or others", what, len(got), len(want))
	}
	if gotAt != at {
		t.Errorf("%s: offset %d, not %d", what, gotAt, at)
	}
}

// P2.3, P2.4: frames one behind the other, and whatever lies behind them that is no frame.
func TestSplit(t *testing.T) {
	for i, bodies := range chains() {
		b := chain(bodies)
		for j, tail := range tails() {
			checkSplit(t, fmt.Sprintf("row %d, tail %d", i, j), slices.Concat(b, tail), bodies, len(b))
		}
	}
}

// P2.3: of nothing, nothing.
func TestSplitNothing(t *testing.T) {
	checkSplit(t, "nil", nil, nil, 0)
	checkSplit(t, "no bytes", []byte{}, nil, 0)
	whole := chain(bodies())
	checkSplit(t, "no bytes, with frames in the room behind them", whole[:0], nil, 0)
}

// P2.3: a frame in the middle that is broken ends it, though right ones lie behind it.
func TestSplitBrokenAtEachPlace(t *testing.T) {
	rows := [][]byte{[]byte("first"), nil, []byte("third one"), row(30, 3)}
	whole := chain(rows)
	at := 0
	for i, body := range rows {
		size := len(frameByWords(body))
		for k := at + 4; k < at+size; k++ {
			b := bytes.Clone(whole)
			b[k] ^= 0x10
			checkSplit(t, fmt.Sprintf("another byte at %d", k), b, rows[:i], at)
		}
		for k := at; k < at+size; k++ {
			checkSplit(t, fmt.Sprintf("cut at %d", k), whole[:k], rows[:i], at)
		}
		at += size
	}
}

// P2.3: the offset and the bodies are those that Next comes to, step by step.
func TestSplitByNext(t *testing.T) {
	for i, bodies := range chains() {
		for j, tail := range tails() {
			b := slices.Concat(chain(bodies), tail)
			var want [][]byte
			rest := b
			for {
				body, more, e := frame.Next(rest)
				if e != api.OK {
					break
				}
				want, rest = append(want, body), more
			}
			checkSplit(t, fmt.Sprintf("row %d, tail %d", i, j), b, want, len(b)-len(rest))
		}
	}
}

// P2.3: just MaxBody bytes are a body like others.
func TestSplitMaxBody(t *testing.T) {
	rows := [][]byte{[]byte("ahead"), row(api.MaxBody, 1), []byte("behind")}
	b := chain(rows)
	checkSplit(t, "a body of MaxBody bytes", b, rows, len(b))
	tooLong := slices.Concat(frameByWords(rows[0]), frameByWords(row(api.MaxBody+1, 1)), frameByWords(rows[2]))
	checkSplit(t, "a body of one byte more", tooLong, rows[:1], len(frameByWords(rows[0])))
}

// P2.3: the bodies share no memory, neither with what was handed in nor with one another.
func TestSplitMemory(t *testing.T) {
	for i, bodies := range chains() {
		b := roomy(append(chain(bodies), 1, 2, 3))
		was := bytes.Clone(b[:cap(b)])
		got, _ := frame.Split(b)
		again, _ := frame.Split(b)
		for k := range got {
			spoil(got[k])
			if !slices.EqualFunc(got[k+1:], bodies[k+1:], bytes.Equal) {
				t.Errorf("row %d: body %d shares memory with others", i, k)
			}
		}
		if !bytes.Equal(b[:cap(b)], was) {
			t.Errorf("row %d: what was handed in is changed", i)
		}
		spoil(b)
		if !slices.EqualFunc(again, bodies, bytes.Equal) {
			t.Errorf("row %d: the answer shares memory", i)
		}
	}
}

// P2.4: what Frame makes, Next and Split take apart again; any bytes are split without harm.
func FuzzFrames(f *testing.F) {
	for _, tail := range tails() {
		f.Add([]byte("one"), []byte("two"), tail)
	}
	f.Fuzz(func(t *testing.T, one, two, tail []byte) {
		if len(one) > api.MaxBody || len(two) > api.MaxBody {
			return
		}
		b := slices.Concat(framed(t, one), framed(t, two))
		checkNext(t, slices.Concat(b, tail), one, slices.Concat(framed(t, two), tail))
		more, at := frame.Split(tail)
		if !bytes.Equal(chain(more), tail[:at]) {
			t.Errorf("Split of %x: %x up to %d", tail, more, at)
		}
		checkSplit(t, "two frames and some bytes", slices.Concat(b, tail), append([][]byte{one, two}, more...), len(b)+at)
	})
}
