package num_test

import (
	"bytes"
	"fmt"
	"math"
	"strings"
	"testing"

	"osier/api"
	"osier/num"
)

// tail is what lies behind the thing that is read.
const tail = "\x04tail"

// checkLeft looks at a reader without an error that has so many bytes left; End is asked of one that has none alone, so that others can be read further.
func checkLeft(t *testing.T, what string, r *num.Reader, left int) {
	t.Helper()
	if r.Left() != left || r.Err() != api.OK {
		t.Errorf("%s: %d left, %v; not %d", what, r.Left(), r.Err(), left)
	}
	if left == 0 {
		checkEnd(t, what, r)
	}
}

// checkEnd looks at a reader that has read all well: End, however often it is asked, changes nothing.
func checkEnd(t *testing.T, what string, r *num.Reader) {
	t.Helper()
	for range 2 {
		if e := r.End(); e != api.OK || r.Err() != api.OK || r.Left() != 0 {
			t.Errorf("%s: End is %v, Err %v, %d left", what, e, r.Err(), r.Left())
		}
	}
}

// checkDead looks at a reader with an error, from which nothing is read any more.
func checkDead(t *testing.T, what string, r *num.Reader, want api.Errno) {
	t.Helper()
	for range 2 {
		if r.Err() != want || r.End() != want || r.Left() != 0 {
			t.Errorf("%s: %v, %v, %d left; not %v", what, r.Err(), r.End(), r.Left(), want)
		}
		if u, i, s := r.Uint(), r.Int(), r.Text(); u != 0 || i != 0 || s != "" {
			t.Errorf("%s: %d, %d, %q are read behind an error", what, u, i, s)
		}
		for _, least := range []int{math.MinInt, 0, 1, math.MaxInt} {
			if n := r.Count(least); n != 0 {
				t.Errorf("%s: Count(%d) is %d behind an error", what, least, n)
			}
		}
		r.Fail(api.ErrSum)
		r.Fail(api.OK)
	}
}

// checkFails looks at what each call answers for wrong bytes.
func checkFails(t *testing.T, b []byte, want api.Errno) {
	t.Helper()
	for _, c := range []struct {
		name string
		zero func(*num.Reader) bool
	}{
		{"Uint", func(r *num.Reader) bool { return r.Uint() == 0 }},
		{"Int", func(r *num.Reader) bool { return r.Int() == 0 }},
		{"Text", func(r *num.Reader) bool { return r.Text() == "" }},
		{"Count", func(r *num.Reader) bool { return r.Count(1) == 0 }},
	} {
		what := fmt.Sprintf("%s of %x", c.name, b)
		r := num.Read(b)
		if !c.zero(r) {
			t.Errorf("%s: an answer beside an error", what)
		}
		checkDead(t, what, r, want)
	}
}

// P1.2: numbers, at the end and ahead of other bytes.
func TestReadUint(t *testing.T) {
	for _, n := range numbers() {
		b := inBytes(n, needed(n))
		r := num.Read(b)
		if got := r.Uint(); got != n {
			t.Errorf("%x: %d, not %d", b, got, n)
		}
		checkLeft(t, fmt.Sprint(n), r, 0)
		r = num.Read(append(b, tail...))
		if got := r.Uint(); got != n {
			t.Errorf("%x and a tail: %d, not %d", b, got, n)
		}
		checkLeft(t, fmt.Sprint(n), r, len(tail))
		if s := r.Text(); s != tail[1:] {
			t.Errorf("behind %d: %q", n, s)
		}
	}
}

// P1.2: numbers of either sign.
func TestReadInt(t *testing.T) {
	for _, n := range ints() {
		u := fold(n)
		r := num.Read(append(inBytes(u, needed(u)), tail...))
		if got := r.Int(); got != n {
			t.Errorf("%d, not %d", got, n)
		}
		checkLeft(t, fmt.Sprint(n), r, len(tail))
	}
}

// P1.2: texts.
func TestReadText(t *testing.T) {
	for _, s := range texts() {
		n := uint64(len(s))
		b := append(inBytes(n, needed(n)), s...)
		r := num.Read(b)
		if got := r.Text(); got != s {
			t.Errorf("a text of %d bytes: %d bytes are read", n, len(got))
		}
		checkLeft(t, "a text", r, 0)
		r = num.Read(append(b, tail...))
		if got := r.Text(); got != s {
			t.Errorf("a text of %d bytes and a tail: %d bytes are read", n, len(got))
		}
		checkLeft(t, "a text and a tail", r, len(tail))
	}
}

// P1.2: what is read isn't changed, and a text that was read stays when the bytes are changed later.
func TestReadKeepsBytes(t *testing.T) {
	b := []byte("\x02ab\x80\x80\x80\x05")
	was := bytes.Clone(b)
	r := num.Read(b)
	s, n := r.Text(), r.Int()
	r.Uint()
	if !bytes.Equal(b, was) || n != 64 || r.Err() != api.ErrForm {
		t.Errorf("%x, %d, %v", b, n, r.Err())
	}
	b[1], b[2] = 'x', 'y'
	if s != "ab" {
		t.Errorf("the text became %q", s)
	}
}

// P1.2: no bytes, and, for each number of bytes, all that are too few.
func TestShortNumber(t *testing.T) {
	checkFails(t, nil, api.ErrShort)
	checkFails(t, []byte{}, api.ErrShort)
	for k := 2; k <= 9; k++ {
		least, small := uint64(1)<<(7*(k-1)), uint64(5)
		for _, n := range []uint64{least, least + 1, 2*least - 1, small} {
			whole := inBytes(n, k)
			for have := 1; have < k; have++ {
				// Too few bytes go ahead of a number in too many.
				checkFails(t, whole[:have], api.ErrShort)
			}
		}
	}
}

// P1.2: each number of bytes, with numbers that need fewer.
func TestNumberInTooManyBytes(t *testing.T) {
	checkFails(t, []byte{128, 5}, api.ErrForm)
	for k := 2; k <= 9; k++ {
		bound := uint64(1) << (7 * (k - 1))
		for _, n := range []uint64{0, 1, 127, bound / 128, bound/128 - 1, bound - 2, bound - 1} {
			checkFails(t, inBytes(n, k), api.ErrForm)
			checkFails(t, append(inBytes(n, k), tail...), api.ErrForm)
		}
		r := num.Read(inBytes(bound, k))
		if n := r.Uint(); n != bound || r.End() != api.OK {
			t.Errorf("%d in %d bytes: %d, %v", bound, k, n, r.End())
		}
	}
}

// P1.2: texts that end too early, however long they say they are.
func TestShortText(t *testing.T) {
	for _, n := range []uint64{1, 2, 5, 127, 128, 1 << 14, 1 << 32, 1<<63 - 1, 1 << 63, 1<<63 + 1, math.MaxUint64} {
		length := inBytes(n, needed(n))
		for _, body := range []string{"", "a", strings.Repeat("x", 126), strings.Repeat("x", 127)} {
			if uint64(len(body)) >= n {
				continue
			}
			r := num.Read(append(bytes.Clone(length), body...))
			if s := r.Text(); s != "" {
				t.Errorf("%d bytes of %d: %q", len(body), n, s)
			}
			checkDead(t, fmt.Sprintf("%d bytes of %d", len(body), n), r, api.ErrShort)
		}
	}
}

// P1.2: a length in more bytes than it needs is none: whether the text would end too early isn't asked any more.
func TestTextWithWrongLength(t *testing.T) {
	for _, body := range []string{"", "ab", "abcde", "abcdef"} {
		r := num.Read([]byte("\x80\x05" + body))
		if s := r.Text(); s != "" {
			t.Errorf("%q is read", s)
		}
		checkDead(t, body, r, api.ErrForm)
	}
}

// P1.2: Count with what is left just enough, and one too few.
func TestCount(t *testing.T) {
	for _, c := range []struct {
		n     uint64
		least int
		left  int
		want  api.Errno
	}{
		{0, 1, 0, api.OK},
		{0, math.MaxInt, 0, api.OK},
		{0, math.MinInt, 5, api.OK},
		{1, 1, 0, api.ErrShort},
		{1, 1, 1, api.OK},
		{3, 1, 3, api.OK},
		{4, 1, 3, api.ErrShort},
		{3, 0, 3, api.OK},
		{4, 0, 3, api.ErrShort},
		{3, -7, 3, api.OK},
		{4, -7, 3, api.ErrShort},
		{4, math.MinInt, 3, api.ErrShort},
		{3, 4, 12, api.OK},
		{3, 4, 13, api.OK},
		{3, 4, 11, api.ErrShort},
		{1, 12, 12, api.OK},
		{1, 13, 12, api.ErrShort},
		{2, 7, 13, api.ErrShort},
		{128, 2, 256, api.OK},
		{128, 2, 255, api.ErrShort},
		{1, math.MaxInt, 9, api.ErrShort},
		// The products are 0 or small, where the highest bits are lost.
		{2, math.MaxInt, 9, api.ErrShort},
		{2, 1 << 62, 9, api.ErrShort},
		{4, 1 << 62, 9, api.ErrShort},
		{8, 1 << 61, 9, api.ErrShort},
		{1 << 32, 1 << 32, 9, api.ErrShort},
		{1 << 63, 2, 9, api.ErrShort},
		{1 << 63, 1, 9, api.ErrShort},
		{math.MaxUint64, 1, 9, api.ErrShort},
		{math.MaxUint64, -1, 9, api.ErrShort},
		{math.MaxUint64, math.MaxInt, 9, api.ErrShort},
		{1<<63 + 1, 2, 9, api.ErrShort},
	} {
		what := fmt.Sprintf("%d times %d of %d bytes", c.n, c.least, c.left)
		r := num.Read(append(inBytes(c.n, needed(c.n)), make([]byte, c.left)...))
		got := r.Count(c.least)
		if c.want != api.OK {
			if got != 0 {
				t.Errorf("%s: %d", what, got)
			}
			checkDead(t, what, r, c.want)
			continue
		}
		if got != int(c.n) {
			t.Errorf("%s: %d", what, got)
		}
		checkLeft(t, what, r, c.left)
	}
}

// P1.2: that a number of things is in too many bytes is told ahead of that they are too many.
func TestCountWithWrongNumber(t *testing.T) {
	r := num.Read([]byte{128, 5})
	if n := r.Count(1); n != 0 {
		t.Errorf("%d is read", n)
	}
	checkDead(t, "128 5", r, api.ErrForm)
}

// P1.3: an error behind things that were read well.
func TestErrorLater(t *testing.T) {
	b := num.Text(num.Int(num.Uint(nil, 300), -300), "abc")
	r := num.Read(append(append(b, 128, 5), tail...))
	if u, i, s := r.Uint(), r.Int(), r.Text(); u != 300 || i != -300 || s != "abc" {
		t.Fatalf("%d, %d, %q", u, i, s)
	}
	checkLeft(t, "ahead of the error", r, 2+len(tail))
	if n := r.Uint(); n != 0 {
		t.Errorf("%d is read", n)
	}
	checkDead(t, "behind the error", r, api.ErrForm)
}

// P1.3: Fail, where there is an error and where there is none.
func TestFail(t *testing.T) {
	for _, e := range []api.Errno{api.ErrArg, api.ErrShort, api.ErrForm, api.ErrSum, api.ErrOp, -1, 1000} {
		r := num.Read([]byte(tail))
		r.Fail(api.OK)
		checkLeft(t, "Fail with OK", r, len(tail))
		r.Fail(e)
		checkDead(t, fmt.Sprintf("Fail with %d", int(e)), r, e)

		r = num.Read(nil)
		r.Uint()
		r.Fail(e)
		checkDead(t, "Fail behind ErrShort", r, api.ErrShort)

		r = num.Read(nil)
		r.Fail(e)
		checkDead(t, "Fail at the end", r, e)
	}
}

// P1.3: Fail with OK lets a reader go on.
func TestFailOK(t *testing.T) {
	r := num.Read([]byte(tail))
	r.Fail(api.OK)
	if s := r.Text(); s != tail[1:] {
		t.Errorf("%q is read", s)
	}
	checkLeft(t, "the end", r, 0)
}

// P1.3: End where nothing is left.
func TestEnd(t *testing.T) {
	checkLeft(t, "no bytes", num.Read(nil), 0)
	checkLeft(t, "no bytes", num.Read([]byte{}), 0)
	r := num.Read([]byte{7, 9})
	checkLeft(t, "two numbers", r, 2)
	if n, m := r.Uint(), r.Uint(); n != 7 || m != 9 {
		t.Errorf("%d, %d; not 7, 9", n, m)
	}
	checkLeft(t, "none", r, 0)
	// An end that was well is no error: what is read behind it has its own.
	if n := r.Uint(); n != 0 {
		t.Errorf("%d is read behind the end", n)
	}
	checkDead(t, "behind the end", r, api.ErrShort)
}

// P1.3: that bytes are left is an error like any other, once End has told it, whatever the bytes are.
func TestEndWithBytesLeft(t *testing.T) {
	for _, b := range []string{"\x00", "\x05\x06", "\x80\x80\x01", "\x80\x05", "\xc0\x40", "\xff", tail} {
		what := fmt.Sprintf("%x left", b)
		r := num.Read([]byte(b))
		if e := r.End(); e != api.ErrForm {
			t.Errorf("%s: End is %v", what, e)
		}
		checkDead(t, what, r, api.ErrForm)

		r = num.Read(append([]byte{7}, b...))
		if n, e := r.Uint(), r.End(); n != 7 || e != api.ErrForm {
			t.Errorf("%s: %d is read, End is %v", what, n, e)
		}
		checkDead(t, what, r, api.ErrForm)
	}
}

// P1.3: what is asked first behind the error that End told, each call on its own.
func TestFirstCallBehindEnd(t *testing.T) {
	for name, zero := range map[string]func(*num.Reader) bool{
		"Uint":  func(r *num.Reader) bool { return r.Uint() == 0 },
		"Int":   func(r *num.Reader) bool { return r.Int() == 0 },
		"Text":  func(r *num.Reader) bool { return r.Text() == "" },
		"Count": func(r *num.Reader) bool { return r.Count(1) == 0 },
		"Left":  func(r *num.Reader) bool { return r.Left() == 0 },
		"Err":   func(r *num.Reader) bool { return r.Err() == api.ErrForm },
		"End":   func(r *num.Reader) bool { return r.End() == api.ErrForm },
		"Fail":  func(r *num.Reader) bool { r.Fail(api.ErrSum); return r.Err() == api.ErrForm },
	} {
		r := num.Read([]byte{2, 'a', 'b'})
		r.End()
		if !zero(r) {
			t.Errorf("%s is wrong behind the error of End", name)
		}
	}
}

// P1.3: End tells the first error, not that bytes were left behind it.
func TestEndKeepsFirstError(t *testing.T) {
	r := num.Read([]byte(tail))
	r.Fail(api.ErrSum)
	if e := r.End(); e != api.ErrSum {
		t.Errorf("End is %v", e)
	}
	checkDead(t, "Fail ahead of End", r, api.ErrSum)
}

// P1.3: each call on nil.
func TestNilReader(t *testing.T) {
	var r *num.Reader
	r.Fail(api.ErrForm)
	r.Fail(api.OK)
	checkDead(t, "nil", r, api.ErrArg)
}

// P1.3: the calls on nil, each one the first.
func TestNilReaderEach(t *testing.T) {
	for name, call := range map[string]func(*num.Reader) bool{
		"Uint":  func(r *num.Reader) bool { return r.Uint() == 0 },
		"Int":   func(r *num.Reader) bool { return r.Int() == 0 },
		"Text":  func(r *num.Reader) bool { return r.Text() == "" },
		"Count": func(r *num.Reader) bool { return r.Count(0) == 0 },
		"Left":  func(r *num.Reader) bool { return r.Left() == 0 },
		"Err":   func(r *num.Reader) bool { return r.Err() == api.ErrArg },
		"End":   func(r *num.Reader) bool { return r.End() == api.ErrArg },
	} {
		if !call(nil) {
			t.Errorf("%s of nil is wrong", name)
		}
	}
}
