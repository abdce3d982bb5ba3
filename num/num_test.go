package num_test

import (
	"bytes"
	"fmt"
	"math"
	"math/big"
	"strconv"
	"strings"
	"testing"

	"osier/api"
	"osier/num"
)

// The calls, with just the signatures that the chapter lists.
var (
	_ func([]byte, uint64) []byte       = num.Uint
	_ func([]byte, int) []byte          = num.Int
	_ func([]byte, string) []byte       = num.Text
	_ func([]byte) *num.Reader          = num.Read
	_ func(*num.Reader) uint64          = (*num.Reader).Uint
	_ func(*num.Reader) int             = (*num.Reader).Int
	_ func(*num.Reader) string          = (*num.Reader).Text
	_ func(*num.Reader, int) int        = (*num.Reader).Count
	_ func(*num.Reader) int             = (*num.Reader).Left
	_ func(*num.Reader, api.Errno)      = (*num.Reader).Fail
	_ func(*num.Reader) (e api.Errno)   = (*num.Reader).Err
	_ func(*num.Reader) (err api.Errno) = (*num.Reader).End
)

// inBytes is n in just k bytes, whether or not it needs them, spelt bit by bit as the chapter's words do.
func inBytes(n uint64, k int) []byte {
	text := strings.Repeat("1", k-1) + "0" + fmt.Sprintf("%0*b", 7*k, n)
	if k == 9 {
		text = "11111111" + fmt.Sprintf("%064b", n)
	}
	var b []byte
	for ; text != ""; text = text[8:] {
		one, err := strconv.ParseUint(text[:8], 2, 8)
		if err != nil {
			panic(err)
		}
		b = append(b, byte(one))
	}
	return b
}

// needed is how many bytes the chapter gives a number.
func needed(n uint64) int {
	bits := len(strconv.FormatUint(n, 2))
	return min((bits+6)/7, 9)
}

// numbers are those at and around each bound, and some between.
func numbers() []uint64 {
	l := []uint64{0, 1, 2, 63, 64, 65, 1e9, 0x0102030405060708, 0xf1e2d3c4b5a69788,
		1 << 63, 1<<63 - 1, 1<<63 + 1, math.MaxUint64 - 1, math.MaxUint64}
	for at := range 64 {
		n := uint64(1) << at
		l = append(l, n-1, n, n+1, n+n/3)
	}
	return l
}

// ints are numbers of either sign, up to the greatest and the least one.
func ints() []int {
	var l []int
	for _, n := range numbers() {
		l = append(l, int(n), -int(n))
	}
	return append(l, math.MaxInt, math.MinInt, math.MinInt+1)
}

// fold is the number of no sign that stands for n: 2 n, or -2 n - 1, in numbers that never overflow.
func fold(n int) uint64 {
	twice := new(big.Int).Mul(big.NewInt(int64(n)), big.NewInt(2))
	if n < 0 {
		twice.Neg(twice)
		twice.Sub(twice, big.NewInt(1))
	}
	return twice.Uint64()
}

// texts are of lengths at and around the bounds, of any bytes.
func texts() []string {
	l := []string{"", "a", "ab", "\x00", "\xff\x80", "Weide \u00e4 \u6c34 \U0001f333"}
	for _, n := range []int{127, 128, 129, 16383, 16384, 16385} {
		l = append(l, strings.Repeat("x", n-1)+"y")
	}
	return l
}

// heads are the bytes that may lie ahead; one has room behind it that isn't to be used.
func heads() [][]byte {
	roomy := make([]byte, 3, 100)
	copy(roomy, "abc")
	return [][]byte{nil, {}, {0}, {255, 128, 0}, roomy, bytes.Repeat([]byte("h"), 300)}
}

// checkBehind looks at what a call lays behind each head: the bytes, that they are new memory, and that the head, and the room behind it, stays as it was.
func checkBehind(t *testing.T, what string, want []byte, call func([]byte) []byte) {
	t.Helper()
	for _, head := range heads() {
		whole := head[:cap(head)]
		was := bytes.Clone(whole)
		got := call(head)
		if !bytes.Equal(got, append(bytes.Clone(head), want...)) {
			t.Errorf("%s behind %x: %x, not %x", what, head, got, want)
		}
		again := call(head)
		for i := range got {
			got[i] ^= 0xff
		}
		for i, x := range got[:cap(got)][len(got):] {
			got[:cap(got)][len(got)+i] = ^x
		}
		if !bytes.Equal(whole, was) {
			t.Errorf("%s behind %x: what was handed in is changed", what, was)
		}
		if !bytes.Equal(again, append(bytes.Clone(head), want...)) {
			t.Errorf("%s behind %x: two answers share memory", what, head)
		}
	}
}

// P1.1: the chapter's examples.
func TestExamples(t *testing.T) {
	for _, c := range []struct {
		got, want []byte
	}{
		{num.Uint(nil, 127), []byte{127}},
		{num.Uint(nil, 128), []byte{128, 128}},
		{num.Uint(nil, 16384), []byte{192, 64, 0}},
		{num.Int(nil, -1), []byte{1}},
		{num.Int(nil, 64), []byte{128, 128}},
		{num.Text(nil, ""), []byte{0}},
		{num.Text(nil, "ab"), []byte{2, 'a', 'b'}},
	} {
		if !bytes.Equal(c.got, c.want) {
			t.Errorf("%v, not %v", c.got, c.want)
		}
	}
}

// P1.1: the bytes on both sides of each bound, written out.
func TestUintBounds(t *testing.T) {
	for _, c := range []struct {
		n    uint64
		want string
	}{
		{0, "\x00"},
		{1<<7 - 1, "\x7f"},
		{1 << 7, "\x80\x80"},
		{1<<14 - 1, "\xbf\xff"},
		{1 << 14, "\xc0\x40\x00"},
		{1<<21 - 1, "\xdf\xff\xff"},
		{1 << 21, "\xe0\x20\x00\x00"},
		{1<<28 - 1, "\xef\xff\xff\xff"},
		{1 << 28, "\xf0\x10\x00\x00\x00"},
		{1<<35 - 1, "\xf7\xff\xff\xff\xff"},
		{1 << 35, "\xf8\x08\x00\x00\x00\x00"},
		{1<<42 - 1, "\xfb\xff\xff\xff\xff\xff"},
		{1 << 42, "\xfc\x04\x00\x00\x00\x00\x00"},
		{1<<49 - 1, "\xfd\xff\xff\xff\xff\xff\xff"},
		{1 << 49, "\xfe\x02\x00\x00\x00\x00\x00\x00"},
		{1<<56 - 1, "\xfe\xff\xff\xff\xff\xff\xff\xff"},
		{1 << 56, "\xff\x01\x00\x00\x00\x00\x00\x00\x00"},
		{math.MaxUint64, "\xff\xff\xff\xff\xff\xff\xff\xff\xff"},
	} {
		checkBehind(t, fmt.Sprint(c.n), []byte(c.want), func(b []byte) []byte { return num.Uint(b, c.n) })
	}
}

// P1.1: numbers, against their bits.
func TestUintBits(t *testing.T) {
	for _, n := range numbers() {
		checkBehind(t, fmt.Sprint(n), inBytes(n, needed(n)), func(b []byte) []byte { return num.Uint(b, n) })
	}
}

// P1.1: numbers of either sign.
func TestIntBits(t *testing.T) {
	for _, n := range ints() {
		u := fold(n)
		checkBehind(t, fmt.Sprint(n), inBytes(u, needed(u)), func(b []byte) []byte { return num.Int(b, n) })
	}
}

// P1.1: the greatest and the least number, and those around 0, written out.
func TestIntBounds(t *testing.T) {
	for _, c := range []struct {
		n    int
		want string
	}{
		{0, "\x00"}, {-1, "\x01"}, {1, "\x02"}, {-2, "\x03"},
		{63, "\x7e"}, {-64, "\x7f"}, {64, "\x80\x80"}, {-65, "\x80\x81"},
		{math.MaxInt, "\xff\xff\xff\xff\xff\xff\xff\xff\xfe"},
		{math.MinInt, "\xff\xff\xff\xff\xff\xff\xff\xff\xff"},
	} {
		checkBehind(t, fmt.Sprint(c.n), []byte(c.want), func(b []byte) []byte { return num.Int(b, c.n) })
	}
}

// P1.1: texts, of any bytes.
func TestText(t *testing.T) {
	for _, s := range texts() {
		n := uint64(len(s))
		want := append(inBytes(n, needed(n)), s...)
		checkBehind(t, fmt.Sprintf("a text of %d bytes", n), want, func(b []byte) []byte { return num.Text(b, s) })
	}
}
