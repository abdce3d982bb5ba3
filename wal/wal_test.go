package wal_test

import (
	"slices"
	"strings"
	"testing"

	"osier/api"
	"osier/disk"
	"osier/frame"
	"osier/wal"
)

// The calls, with just the signatures that the chapter lists.
var (
	_ func(d *disk.Disk, name string) (*wal.Log, [][]byte, api.Errno) = wal.Open
	_ func(l *wal.Log, body []byte) api.Errno                         = (*wal.Log).Append
	_ func(l *wal.Log) api.Errno                                      = (*wal.Log).Sync
	_ func(l *wal.Log) int                                            = (*wal.Log).Count
	_ func(l *wal.Log) (sure int)                                     = (*wal.Log).Sure
)

// plenty is more bytes than any file of these tests has, but for those of the greatest bodies.
const plenty = 1 << 20

// framed are bodies' frames, one behind the other.
func framed(t *testing.T, bodies ...string) string {
	t.Helper()
	out := ""
	for _, body := range bodies {
		b, e := frame.Frame([]byte(body))
		if e != api.OK {
			t.Fatalf("Frame of %d bytes: error %d", len(body), e)
		}
		out += string(b)
	}
	return out
}

// holding is a disk with a file of these bytes, all of them sure.
func holding(t *testing.T, name, bytes string) *disk.Disk {
	t.Helper()
	d := disk.New(plenty)
	if e := d.Append(name, []byte(bytes)); e != api.OK {
		t.Fatalf("Append to %q: error %d", name, e)
	}
	if e := d.Sync(name); e != api.OK {
		t.Fatalf("Sync of %q: error %d", name, e)
	}
	return d
}

// read is a file's bytes.
func read(t *testing.T, d *disk.Disk, name string) string {
	t.Helper()
	b, e := d.Read(name)
	if e != api.OK {
		t.Fatalf("Read of %q: error %d", name, e)
	}
	return string(b)
}

// texts are bodies as texts.
func texts(bodies [][]byte) []string {
	var out []string
	for _, b := range bodies {
		out = append(out, string(b))
	}
	return out
}

// opened is a log that is opened without an error, and has just these records, none of which it made sure.
func opened(t *testing.T, d *disk.Disk, name string, want ...string) *wal.Log {
	t.Helper()
	l, bodies, e := wal.Open(d, name)
	if e != api.OK || l == nil {
		t.Fatalf("Open of %q: error %d", name, e)
	}
	if got := texts(bodies); !slices.Equal(got, want) {
		t.Fatalf("Open of %q: the records are %q, not %q", name, got, want)
	}
	checkCounts(t, "opened", l, len(want), 0)
	return l
}

// checkCounts looks how many records a log has, and of how many it made sure.
func checkCounts(t *testing.T, what string, l *wal.Log, count, sure int) {
	t.Helper()
	if l.Count() != count || l.Sure() != sure {
		t.Errorf("%s: %d records, %d sure, not %d, %d", what, l.Count(), l.Sure(), count, sure)
	}
}

// checkFile looks whether a file has just these bytes.
func checkFile(t *testing.T, what string, d *disk.Disk, name, want string) {
	t.Helper()
	if got := read(t, d, name); got != want {
		t.Errorf("%s: %q is %q, not %q", what, name, got, want)
	}
}

// checkSure looks what of a file is sure, by the power that goes off and on.
func checkSure(t *testing.T, what string, d *disk.Disk, name, want string) {
	t.Helper()
	cut(t, d, 0, 0, 0)
	d.Remove("")
	d.On()
	checkFile(t, what+": sure", d, name, want)
}

// cut is a Cut that isn't refused.
func cut(t *testing.T, d *disk.Disk, ops, part, keep int) {
	t.Helper()
	if e := d.Cut(ops, part, keep); e != api.OK {
		t.Fatalf("Cut of %d, %d, %d: error %d", ops, part, keep, e)
	}
}

// operations is how many operations of a disk something does, which is told by when the power goes off behind it.
func operations(t *testing.T, d *disk.Disk, do func()) int {
	t.Helper()
	const many = 50
	cut(t, d, many, 0, plenty)
	do()
	left := 0
	for d.Remove("") != api.ErrPower {
		left++
	}
	d.On()
	return many - left
}

// must does calls that answer no error.
func must(t *testing.T, what string, l ...api.Errno) {
	t.Helper()
	for i, e := range l {
		if e != api.OK {
			t.Fatalf("%s: call %d: error %d", what, i, e)
		}
	}
}

// put is an Append of a text.
func put(l *wal.Log, body string) api.Errno { return l.Append([]byte(body)) }

// repeated is a text so many times.
func repeated(s string, n int) string { return strings.Repeat(s, n) }

// P19: the chapter's example.
func TestExamples(t *testing.T) {
	d := disk.New(1000)
	l := opened(t, d, "log")
	must(t, "a", put(l, "a"), l.Sync())
	cut(t, d, 0, 3, 1000)
	if e := put(l, "bc"); e != api.ErrPower {
		t.Errorf("Append: error %d", e)
	}
	d.On()
	checkFile(t, "torn", d, "log", framed(t, "a")+"\x02\x00\x00")
	opened(t, d, "log", "a")
	checkFile(t, "opened again", d, "log", framed(t, "a"))
}

// P19.2: of nil.
func TestNil(t *testing.T) {
	var l *wal.Log
	for _, body := range [][]byte{nil, {}, []byte("a"), make([]byte, api.MaxBody+1)} {
		if e := l.Append(body); e != api.ErrArg {
			t.Errorf("Append of %d bytes: error %d", len(body), e)
		}
	}
	if e := l.Sync(); e != api.ErrArg {
		t.Errorf("Sync: error %d", e)
	}
	checkCounts(t, "nil", l, 0, 0)
}

// Rule 1: a log that is just declared has no file.
func TestDeclared(t *testing.T) {
	var l wal.Log
	checkCounts(t, "declared", &l, 0, 0)
	if e := l.Sync(); e != api.OK {
		t.Errorf("Sync: error %d", e)
	}
	if e := put(&l, "a"); e == api.OK {
		t.Error("a record was taken in")
	}
	checkCounts(t, "declared", &l, 0, 0)
}

// P19.1: logs on one disk, and on several, are apart.
func TestApart(t *testing.T) {
	one, two := disk.New(1000), disk.New(1000)
	a, b, c := opened(t, one, "a"), opened(t, one, "b"), opened(t, two, "a")
	must(t, "apart", put(a, "1"), put(b, "22"), put(c, "333"), put(b, "4444"), b.Sync(), put(a, "5"), put(c, ""))
	checkCounts(t, "a", a, 2, 0)
	checkCounts(t, "b", b, 2, 2)
	checkCounts(t, "c", c, 2, 0)
	cut(t, one, 0, 0, 0)
	if e := put(a, "x"); e != api.ErrPower {
		t.Errorf("Append: error %d", e)
	}
	one.On()
	if e := put(a, "y"); e != api.ErrPower {
		t.Errorf("Append: error %d", e)
	}
	// An error that one log was answered isn't the other one's.
	must(t, "apart", put(b, "6"), put(c, "7"), c.Sync())
	opened(t, one, "a")
	opened(t, one, "b", "22", "4444", "6")
	opened(t, two, "a", "333", "", "7")
}
