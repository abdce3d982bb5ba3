package frame_test

import (
	"bytes"
	"encoding/binary"
	"hash/crc32"
	"testing"

	"osier/api"
	"osier/frame"
)

// The calls, with just the signatures that the chapter lists.
var (
	_ func([]byte) uint32                      = frame.Sum
	_ func([]byte) ([]byte, api.Errno)         = frame.Frame
	_ func([]byte) ([]byte, []byte, api.Errno) = frame.Next
	_ func([]byte) ([][]byte, int)             = frame.Split
)

// sumByWords is the sum as the chapter's words tell it, one bit after the other.
func sumByWords(b []byte) uint32 {
	register := uint32(0xffffffff)
	for _, x := range b {
		for i := range 8 {
			differ := register&1 != uint32(x>>i)&1
			register >>= 1
			if differ {
				register ^= 2197175160
			}
		}
	}
	return ^register
}

// frameByWords is the frame as the chapter's words tell it, of bodies of any length.
func frameByWords(body []byte) []byte {
	b := binary.LittleEndian.AppendUint32(nil, uint32(len(body)))
	b = append(b, body...)
	return binary.LittleEndian.AppendUint32(b, sumByWords(b))
}

// row is n bytes, which hang on seed.
func row(n int, seed uint32) []byte {
	b := make([]byte, n)
	for i := range b {
		seed = seed*1664525 + 1013904223
		b[i] = byte(seed >> 24)
	}
	return b
}

// bodies are short and long ones; some look like frames themselves.
func bodies() [][]byte {
	l := [][]byte{nil, {}, {0}, {255}, []byte("ab"), []byte("123456789"), make([]byte, 4), bytes.Repeat([]byte{255}, 9)}
	for i, n := range []int{3, 7, 8, 127, 255, 256, 257, 65535, 65536, 70001} {
		l = append(l, row(n, uint32(i)))
	}
	return append(l, frameByWords(nil), frameByWords([]byte("in a frame")))
}

// framed is a body's frame; no error may be told.
func framed(t *testing.T, body []byte) []byte {
	t.Helper()
	b, e := frame.Frame(body)
	if e != api.OK {
		t.Fatalf("Frame of %d bytes: error %d", len(body), e)
	}
	return b
}

// roomy is b with room behind it, full of other bytes, that isn't to be used.
func roomy(b []byte) []byte {
	more := append(bytes.Clone(b), bytes.Repeat([]byte{0xa5}, 64)...)
	return more[:len(b)]
}

// spoil changes all of what a call answered, the room behind it too.
func spoil(b []byte) {
	b = b[:cap(b)]
	for i := range b {
		b[i] ^= 0xff
	}
}

// checkRefused looks for an error of Next, and that nothing is told beside it.
func checkRefused(t *testing.T, what string, b []byte, want api.Errno) {
	t.Helper()
	body, rest, e := frame.Next(b)
	if e != want {
		t.Errorf("%s: error %d, not %d", what, e, want)
	}
	if len(body) > 0 || len(rest) > 0 {
		t.Errorf("%s: beside an error %d and %d bytes are told", what, len(body), len(rest))
	}
	if l, at := frame.Split(b); len(l) != 0 || at != 0 {
		t.Errorf("%s: Split tells %d bodies, and %d", what, len(l), at)
	}
}

// P2.1: the chapter's examples.
func TestExamples(t *testing.T) {
	if s := frame.Sum([]byte("123456789")); s != 3808858755 {
		t.Errorf("Sum of 123456789: %d", s)
	}
	if b := framed(t, nil); !bytes.Equal(b, []byte{0, 0, 0, 0, 199, 75, 103, 72}) {
		t.Errorf("Frame of nothing: %v", b)
	}
	one, two := framed(t, []byte("one")), framed(t, []byte("second"))
	l, at := frame.Split(append(append(bytes.Clone(one), two...), 7))
	if len(l) != 2 || string(l[0]) != "one" || string(l[1]) != "second" || at != len(one)+len(two) {
		t.Errorf("Split of two frames and a byte: %q, %d", l, at)
	}
}

// P2.1: the sum of no bytes, of each single byte, of long rows; against the words, and against a sum that is known.
func TestSum(t *testing.T) {
	if frame.Sum(nil) != 0 || frame.Sum([]byte{}) != 0 {
		t.Errorf("Sum of no bytes: %d, %d", frame.Sum(nil), frame.Sum([]byte{}))
	}
	rows := bodies()
	for x := range 256 {
		rows = append(rows, []byte{byte(x)}, []byte{byte(x), 0}, []byte{0, byte(x)})
	}
	rows = append(rows, make([]byte, 1<<20), bytes.Repeat([]byte{255}, 1<<20), row(1<<20+3, 5))
	table := crc32.MakeTable(crc32.Castagnoli)
	for _, b := range rows {
		b = roomy(b)
		was := bytes.Clone(b[:cap(b)])
		got := frame.Sum(b)
		if want := sumByWords(b); got != want || got != crc32.Checksum(b, table) {
			t.Errorf("Sum of %d bytes: %d, not %d", len(b), got, want)
		}
		if !bytes.Equal(b[:cap(b)], was) {
			t.Errorf("Sum of %d bytes: they are changed", len(b))
		}
	}
}

// P2.1: frames of bodies of all lengths.
func TestFrame(t *testing.T) {
	for n := range 300 {
		body := row(n, uint32(n))
		if got := framed(t, body); !bytes.Equal(got, frameByWords(body)) {
			t.Errorf("Frame of %d bytes: %v", n, got)
		}
	}
	for _, body := range bodies() {
		if got := framed(t, body); !bytes.Equal(got, frameByWords(body)) {
			t.Errorf("Frame of %d bytes: another one", len(body))
		}
	}
}

// P2.1: just MaxBody bytes, one fewer, one more, many more.
func TestFrameLimit(t *testing.T) {
	long := row(3*api.MaxBody, 1)
	for _, n := range []int{api.MaxBody - 1, api.MaxBody} {
		if got := framed(t, long[:n]); !bytes.Equal(got, frameByWords(long[:n])) {
			t.Errorf("Frame of %d bytes: another one", n)
		}
	}
	for _, n := range []int{api.MaxBody + 1, api.MaxBody + 2, 2 * api.MaxBody, 3 * api.MaxBody} {
		if got, e := frame.Frame(long[:n]); e != api.ErrLimit || len(got) > 0 {
			t.Errorf("Frame of %d bytes: error %d, %d bytes", n, e, len(got))
		}
	}
}

// P2.1: what is answered is new memory; what was handed in, and the room behind it, stays as it was.
func TestFrameMemory(t *testing.T) {
	for _, body := range bodies() {
		body = roomy(body)
		was := bytes.Clone(body[:cap(body)])
		got, again := framed(t, body), framed(t, body)
		spoil(got)
		if !bytes.Equal(body[:cap(body)], was) {
			t.Errorf("Frame of %d bytes: what was handed in is changed", len(body))
		}
		spoil(body)
		if !bytes.Equal(again, frameByWords(was[:len(body)])) {
			t.Errorf("Frame of %d bytes: the answer shares memory", len(body))
		}
	}
}
