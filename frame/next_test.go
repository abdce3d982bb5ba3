package frame_test

import (
	"bytes"
	"encoding/binary"
	"fmt"
	"math"
	"testing"

	"osier/api"
	"osier/frame"
)

// behinds are bytes that may lie behind a frame.
func behinds() [][]byte {
	return [][]byte{nil, {0}, {7, 7, 7}, make([]byte, 8), frameByWords([]byte("next")), frameByWords(nil)[:7], row(500, 9)}
}

// checkNext looks for a body and what lies behind its frame.
func checkNext(t *testing.T, b, body, rest []byte) {
	t.Helper()
	gotBody, gotRest, e := frame.Next(b)
	if e != api.OK || !bytes.Equal(gotBody, body) || !bytes.Equal(gotRest, rest) {
		t.Errorf("Next of %d bytes: %d and %d bytes, error %d", len(b), len(gotBody), len(gotRest), e)
	}
}

// P2.2: the body, and what lies behind the frame, whatever that is.
func TestNext(t *testing.T) {
	for _, body := range bodies() {
		for _, rest := range behinds() {
			checkNext(t, append(frameByWords(body), rest...), body, rest)
		}
	}
}

// P2.2: both are new memory; what was handed in stays as it was.
func TestNextMemory(t *testing.T) {
	for _, body := range bodies() {
		for _, rest := range behinds() {
			b := roomy(append(frameByWords(body), rest...))
			was := bytes.Clone(b[:cap(b)])
			gotBody, gotRest, _ := frame.Next(b)
			againBody, againRest, _ := frame.Next(b)
			spoil(gotBody)
			if !bytes.Equal(gotRest, rest) {
				t.Errorf("Next of %d bytes: the body shares memory with what lies behind it", len(b))
			}
			spoil(gotRest)
			if !bytes.Equal(b[:cap(b)], was) {
				t.Errorf("Next of %d bytes: what was handed in is changed", len(b))
			}
			spoil(b)
			if !bytes.Equal(againBody, body) || !bytes.Equal(againRest, rest) {
				t.Errorf("Next of %d bytes: the answer shares memory", len(b))
			}
		}
	}
}

// P2.2: fewer than four bytes are too short, whatever length they might begin.
func TestNextFewerThanFour(t *testing.T) {
	checkRefused(t, "nil", nil, api.ErrShort)
	for n := range 4 {
		for _, x := range []byte{0, 1, 127, 255} {
			b := bytes.Repeat([]byte{x}, n)
			checkRefused(t, fmt.Sprint(b), b, api.ErrShort)
			// What lies in the room behind them isn't theirs.
			whole := frameByWords([]byte("whole"))
			checkRefused(t, "a whole frame's first bytes", whole[:n], api.ErrShort)
		}
	}
}

// P2.2: a length above MaxBody is no form, however few or many bytes lie behind it, with a right sum or not.
func TestNextTooLong(t *testing.T) {
	lengths := []uint32{api.MaxBody + 1, api.MaxBody + 2, 1 << 23, 1 << 24, 1<<31 - 1, 1 << 31, 1<<31 + 1,
		math.MaxUint32 - 8, math.MaxUint32 - 7, math.MaxUint32 - 4, math.MaxUint32 - 3, math.MaxUint32 - 1, math.MaxUint32}
	for _, n := range lengths {
		head := binary.LittleEndian.AppendUint32(nil, n)
		for _, more := range []int{0, 1, 3, 4, 5, 8, 1000} {
			b := append(bytes.Clone(head), row(more, n)...)
			checkRefused(t, fmt.Sprintf("length %d, %d bytes behind it", n, more), b, api.ErrForm)
		}
	}
	for _, more := range []int{1, 2, 1 << 22} {
		b := frameByWords(row(api.MaxBody+more, 3))
		checkRefused(t, fmt.Sprintf("a whole frame of MaxBody and %d bytes", more), b, api.ErrForm)
	}
}

// P2.2: just MaxBody bytes are a body; with one byte fewer they are too short, with another sum they are refused.
func TestNextMaxBody(t *testing.T) {
	body := row(api.MaxBody, 4)
	b := frameByWords(body)
	checkNext(t, b, body, nil)
	checkNext(t, append(bytes.Clone(b), 1, 2, 3), body, []byte{1, 2, 3})
	for _, n := range []int{4, 5, 8, 1 << 20, api.MaxBody, api.MaxBody + 4, api.MaxBody + 7} {
		checkRefused(t, fmt.Sprintf("MaxBody, of which %d bytes are there", n), b[:n], api.ErrShort)
	}
	b[len(b)-1] ^= 1
	checkRefused(t, "MaxBody with another sum", b, api.ErrSum)
}

// P2.2, P2.4: bytes that end too early, at each place.
func TestNextCutShort(t *testing.T) {
	for _, body := range bodies() {
		if len(body) > 300 {
			continue
		}
		b := frameByWords(body)
		for n := range b {
			what := fmt.Sprintf("a frame of %d bytes, of which %d are there", len(b), n)
			checkRefused(t, what, b[:n], api.ErrShort)
			checkRefused(t, what+", without the others", bytes.Clone(b[:n]), api.ErrShort)
		}
	}
}

// P2.2, P2.4: another byte of the body or of the sum, at each place and each other byte.
func TestNextAnotherByte(t *testing.T) {
	for _, body := range [][]byte{nil, {0}, []byte("ab"), row(40, 8)} {
		for _, rest := range behinds() {
			whole := append(frameByWords(body), rest...)
			for at := 4; at < len(body)+8; at++ {
				for x := 1; x < 256; x++ {
					b := bytes.Clone(whole)
					b[at] ^= byte(x)
					checkRefused(t, fmt.Sprintf("%x, another byte at %d", b, at), b, api.ErrSum)
				}
			}
		}
	}
	long := frameByWords(row(5000, 2))
	for at := 4; at < len(long); at++ {
		b := bytes.Clone(long)
		b[at] ^= byte(1 + at%255)
		checkRefused(t, fmt.Sprintf("5000 bytes, another one at %d", at), b, api.ErrSum)
	}
}

// P2.2: the sum is that of the length and the body; that of the body alone is another one.
func TestNextSumOfBoth(t *testing.T) {
	body := []byte("body")
	b := append([]byte{4, 0, 0, 0}, body...)
	checkRefused(t, "the sum of the body alone", binary.LittleEndian.AppendUint32(bytes.Clone(b), sumByWords(body)), api.ErrSum)
	checkRefused(t, "the highest byte first", binary.BigEndian.AppendUint32(bytes.Clone(b), sumByWords(b)), api.ErrSum)
	checkNext(t, binary.LittleEndian.AppendUint32(bytes.Clone(b), sumByWords(b)), body, nil)
}

// P2.2: a shorter length, with the bytes that it leaves behind it, has another sum.
func TestNextAnotherLength(t *testing.T) {
	b := frameByWords(row(20, 6))
	for n := range 20 {
		b[0] = byte(n)
		checkRefused(t, fmt.Sprintf("20 bytes told as %d", n), b, api.ErrSum)
	}
	b[0] = 21
	checkRefused(t, "20 bytes told as 21", b, api.ErrShort)
}
