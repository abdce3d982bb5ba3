package num_test

import (
	"bytes"
	"cmp"
	"slices"
	"testing"

	"osier/api"
	"osier/num"
)

// P1.4: numbers and texts, one behind the other, are read as they were.
func TestRowIsReadAsWritten(t *testing.T) {
	var b []byte
	for _, n := range numbers() {
		b = num.Uint(b, n)
	}
	for _, n := range ints() {
		b = num.Int(b, n)
	}
	for _, s := range texts() {
		b = num.Text(b, s)
	}
	r := num.Read(b)
	for _, n := range numbers() {
		if got := r.Uint(); got != n {
			t.Fatalf("%d, not %d", got, n)
		}
	}
	for _, n := range ints() {
		if got := r.Int(); got != n {
			t.Fatalf("%d, not %d", got, n)
		}
	}
	for _, s := range texts() {
		if got := r.Text(); got != s {
			t.Fatalf("%q, not %q", got, s)
		}
	}
	if e := r.End(); e != api.OK {
		t.Errorf("the end: %v", e)
	}
}

// P1.4: the kinds by turns, so that each lies behind each.
func TestMixedRowIsReadAsWritten(t *testing.T) {
	for _, u := range []uint64{0, 127, 128, 1 << 56} {
		for _, i := range []int{-1 << 40, -1, 0, 64} {
			for _, s := range []string{"", "\x80\x05", "abc"} {
				b := num.Text(num.Int(num.Uint(nil, u), i), s)
				b = num.Uint(num.Int(num.Text(b, s), i), u)
				r := num.Read(b)
				if r.Uint() != u || r.Int() != i || r.Text() != s || r.Text() != s || r.Int() != i || r.Uint() != u || r.End() != api.OK {
					t.Errorf("%d, %d, %q aren't read as they were", u, i, s)
				}
			}
		}
	}
}

// checkOneWay: bytes that are read as a number are those that the number is written in.
func checkOneWay(t *testing.T, b []byte) {
	t.Helper()
	r := num.Read(b)
	n := r.Uint()
	if r.End() == api.OK && !bytes.Equal(num.Uint(nil, n), b) {
		t.Fatalf("%x is read as %d, too", b, n)
	}
}

// P1.4: of all rows of one and two bytes, and many of three and more, those that are read are the only ones of their number.
func TestOneWayAlone(t *testing.T) {
	for first := range 256 {
		checkOneWay(t, []byte{byte(first)})
		for second := range 256 {
			checkOneWay(t, []byte{byte(first), byte(second)})
			for k := 3; k <= 9; k++ {
				for _, fill := range []byte{0, 1, 127, 128, 255} {
					b := bytes.Repeat([]byte{fill}, k)
					b[0], b[1] = byte(first), byte(second)
					checkOneWay(t, b)
				}
			}
		}
	}
}

// P1.4: each number can be had in no number of bytes but one.
func TestOneLengthAlone(t *testing.T) {
	for _, n := range numbers() {
		ways := 0
		for k := needed(n); k <= 9; k++ {
			r := num.Read(inBytes(n, k))
			if r.Uint() == n && r.End() == api.OK {
				ways++
			}
		}
		if ways != 1 {
			t.Errorf("%d is read in %d ways", n, ways)
		}
	}
}

// P1.4: rising numbers never have fewer bytes, and their bytes rise, too.
func TestFewerBytesAreLess(t *testing.T) {
	l := numbers()
	slices.SortFunc(l, cmp.Compare[uint64])
	l = slices.Compact(l)
	for i := range len(l) - 1 {
		a, b := num.Uint(nil, l[i]), num.Uint(nil, l[i+1])
		if len(a) > len(b) {
			t.Errorf("%d has %d bytes, %d has %d", l[i], len(a), l[i+1], len(b))
		}
		if bytes.Compare(a, b) >= 0 {
			t.Errorf("%d: %x is not ahead of %d: %x", l[i], a, l[i+1], b)
		}
	}
}

// FuzzRead: whatever the bytes, the calls end, and what is read is written as it stood there.
func FuzzRead(f *testing.F) {
	f.Add([]byte("\x02ab\x80\x80"), 1)
	f.Add([]byte{255, 1, 0, 0, 0, 0, 0, 0, 0}, 0)
	f.Add([]byte{192, 64}, -1)
	f.Fuzz(func(t *testing.T, b []byte, least int) {
		was := bytes.Clone(b)
		r := num.Read(b)
		u, s, i := r.Uint(), r.Text(), r.Int()
		if r.Err() == api.OK {
			again := num.Int(num.Text(num.Uint(nil, u), s), i)
			if !bytes.Equal(again, b[:len(b)-r.Left()]) {
				t.Errorf("%x is read, %x written", b, again)
			}
		}
		c := num.Read(b)
		if n := c.Count(least); n < 0 || n > c.Left() {
			t.Errorf("%d things in %d bytes", n, c.Left())
		}
		if !bytes.Equal(b, was) {
			t.Errorf("the bytes are changed")
		}
	})
}
