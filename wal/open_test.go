package wal_test

import (
	"slices"
	"strconv"
	"testing"

	"osier/api"
	"osier/disk"
	"osier/wal"
)

// notNames are texts that are no names of files.
func notNames() []string {
	return []string{
		"", " ", "a b", "a ", " a", "a_b", "log/0", "/", "a\n", "\x00", "a\x00", "\xff", "é", "aé", "ａ", "٣", "a,b", "a:b", "~", "*",
		repeated("a", 33), repeated("-", 33), repeated(".", 34), repeated("0", 64), repeated("a", 256), repeated("z", 1<<16),
	}
}

// names are names of files.
func names() []string {
	return []string{"a", "Z", "0", "-", ".", "..", "log", "log-0", "log-1024", "snap.new", "A.b-9", repeated("a", 31), repeated("a", 32), repeated(".", 32), repeated("Z", 32)}
}

// checkRefused looks that an Open is refused with an error, a log that is nil and no bodies.
func checkRefused(t *testing.T, what string, d *disk.Disk, name string, want api.Errno) {
	t.Helper()
	if l, bodies, e := wal.Open(d, name); l != nil || len(bodies) != 0 || e != want {
		t.Errorf("%s: Open of %q: a log %v, %q, error %d, not %d", what, name, l != nil, bodies, e, want)
	}
}

// P19.1: a disk that is nil, told ahead of a name that is none.
func TestOpenNil(t *testing.T) {
	for _, name := range slices.Concat(names(), notNames()) {
		checkRefused(t, "nil", nil, name, api.ErrArg)
	}
}

// P19.1: names that are none, on a disk that isn't touched.
func TestOpenNoName(t *testing.T) {
	for _, name := range notNames() {
		d := holding(t, "log", framed(t, "a")+"x")
		n := operations(t, d, func() { checkRefused(t, "no name", d, name, api.ErrName) })
		if n != 0 || !slices.Equal(d.Names(), []string{"log"}) {
			t.Errorf("Open of %q: %d operations, and there is %q", name, n, d.Names())
		}
		checkFile(t, "no name", d, "log", framed(t, "a")+"x")
		checkRefused(t, "no name", disk.New(0), name, api.ErrName)
		checkRefused(t, "no name", new(disk.Disk), name, api.ErrName)
	}
}

// P19.1: each byte that may stand in a name, and each that may not.
func TestOpenNameBytes(t *testing.T) {
	const standing = "-.0123456789ABCDEFGHIJKLMNOPQRSTUVWXYZabcdefghijklmnopqrstuvwxyz"
	for n := range 256 {
		for _, around := range [][2]string{{"", ""}, {"", "a"}, {"a", ""}, {"a", "a"}, {repeated("z", 31), ""}, {"", repeated("Z", 31)}} {
			name := around[0] + string([]byte{byte(n)}) + around[1]
			want := api.ErrName
			if slices.Contains([]byte(standing), byte(n)) {
				want = api.OK
			}
			if l, _, e := wal.Open(disk.New(10), name); e != want || l != nil != (want == api.OK) {
				t.Errorf("Open of %q: a log %v, error %d, not %d", name, l != nil, e, want)
			}
		}
	}
}

// P19.1: while the power is off, told behind a name that is none; whether there is such a file or not.
func TestOpenOff(t *testing.T) {
	d := holding(t, "log", framed(t, "a")+"x")
	cut(t, d, 0, 0, 0)
	d.Remove("")
	for _, name := range names() {
		checkRefused(t, "off", d, name, api.ErrPower)
	}
	for _, name := range notNames() {
		checkRefused(t, "off", d, name, api.ErrName)
	}
	if !d.Off() {
		t.Error("the power is on")
	}
	d.On()
	checkFile(t, "on again", d, "log", framed(t, "a")+"x")
	opened(t, d, "log", "a")
}

// P19.1: a name without a file: no records, and no file is made.
func TestOpenNone(t *testing.T) {
	for _, name := range names() {
		d := holding(t, "other", framed(t, "a")+"x")
		if n := operations(t, d, func() { opened(t, d, name) }); n != 0 {
			t.Errorf("Open of %q did %d operations", name, n)
		}
		if !slices.Equal(d.Names(), []string{"other"}) {
			t.Errorf("Open of %q: there is %q", name, d.Names())
		}
		checkFile(t, "none", d, "other", framed(t, "a")+"x")
		opened(t, new(disk.Disk), name)
	}
	// Also where there is no room for a file.
	d := disk.New(0)
	for i := range api.MaxFiles {
		must(t, "many files", d.Append("f"+strconv.Itoa(i), nil))
	}
	opened(t, d, "log")
}

// rows are rows of bodies.
func rows() [][]string {
	return [][]string{
		nil, {""}, {"a"}, {"", ""}, {"a", "bc"}, {"bc", "a"}, {"", "a", ""}, {"\x00\x00\x00\x00", "\xff"}, {repeated("x", 255), repeated("y", 256), repeated("z", 257)},
		{"the same", "the same", "the same"}, {repeated("\x00", 70000), "behind a long one"},
	}
}

// P19.1: whole frames alone: their bodies; nothing is written.
func TestOpenWhole(t *testing.T) {
	for _, row := range rows() {
		for _, name := range names() {
			d := holding(t, name, framed(t, row...))
			if n := operations(t, d, func() { opened(t, d, name, row...) }); n != 0 {
				t.Errorf("Open of %d frames did %d operations", len(row), n)
			}
			checkFile(t, "whole frames", d, name, framed(t, row...))
			checkSure(t, "whole frames", d, name, framed(t, row...))
		}
	}
}

// bad are bytes that begin with no frame.
func bad(t *testing.T) []string {
	t.Helper()
	out := []string{
		"\x00", "x", "abc", "no frame at all", repeated("\x00", 8), repeated("\xff", 4), repeated("\xff", 100), repeated("\x00", 1000),
		"\x01\x00\x40\x00", "\x01\x00\x40\x00" + repeated("x", 100), "\x00\x00\x40\x00" + repeated("x", 100), "\x00\x00\x00\x01" + repeated("x", 100), "\x00\x00\x00\x80", "\x05\x00\x00\x00abcd", "\x04\x00\x00\x00abcd\x00\x00\x00\x00",
	}
	for _, body := range []string{"", "a", "body"} {
		b := framed(t, body)
		for n := 1; n < len(b); n++ {
			out = append(out, b[:n])
		}
		for i := range b {
			for _, bit := range []byte{1, 4, 128} {
				turned := []byte(b)
				turned[i] ^= bit
				out = append(out, string(turned), string(turned)+framed(t, "a whole one"))
			}
		}
	}
	return out
}

// P19.1: just the bytes behind the records are cut off, with one operation, whatever they are.
func TestOpenCutsOff(t *testing.T) {
	for _, row := range rows() {
		good := framed(t, row...)
		for _, behind := range bad(t) {
			d := holding(t, "log", good+behind)
			must(t, "others", d.Append("log.", []byte(good+behind)), d.Append("lo", []byte(behind)), d.Sync("lo"))
			if n := operations(t, d, func() { opened(t, d, "log", row...) }); n != 1 {
				t.Errorf("Open of %d frames and %q did %d operations", len(row), behind, n)
			}
			checkFile(t, "cut off", d, "log", good)
			checkFile(t, "another file", d, "log.", good+behind)
			checkFile(t, "another file", d, "lo", behind)
			if n := operations(t, d, func() { opened(t, d, "log", row...) }); n != 0 {
				t.Errorf("Open did %d operations again", n)
			}
			if room := plenty - len(good) - len(good+behind) - len(behind); d.Room() != room || len(d.Names()) != 3 {
				t.Errorf("there is room for %d, not %d, and %q", d.Room(), room, d.Names())
			}
		}
	}
}

// P19.1: a byte of the body or of the sum of one frame among several is another one: there the records end.
func TestOpenTurned(t *testing.T) {
	row := []string{"first", "", "third one", "x", "last"}
	good, at := framed(t, row...), 0
	for i, body := range row {
		size := len(framed(t, body))
		for j := at + 4; j < at+size; j++ {
			b := []byte(good)
			b[j] ^= 1
			d := holding(t, "log", string(b))
			opened(t, d, "log", row[:i]...)
			checkFile(t, "turned", d, "log", good[:at])
		}
		at += size
	}
}

// P19.1: the file is cut short anywhere: the whole frames are there.
func TestOpenShort(t *testing.T) {
	row := []string{"first", "", "third one", "x", "last"}
	good := framed(t, row...)
	for n := range len(good) + 1 {
		whole := 0
		for len(framed(t, row[:whole+1]...)) <= n {
			whole++
			if whole == len(row) {
				break
			}
		}
		d := holding(t, "log", good[:n])
		opened(t, d, "log", row[:whole]...)
		checkFile(t, "short", d, "log", framed(t, row[:whole]...))
	}
}

// P19.1: a body of as many bytes as one may have, and a length of one more.
func TestOpenGreatest(t *testing.T) {
	body := repeated("x", api.MaxBody)
	b := framed(t, body, "a")
	d := disk.New(1 << 25)
	must(t, "great", d.Append("log", []byte(b+"rest")))
	opened(t, d, "log", body, "a")
	checkFile(t, "great", d, "log", b)
	must(t, "great", d.Append("more", []byte("\x01\x00\x40\x00"+repeated("x", api.MaxBody+5))))
	opened(t, d, "more")
	checkFile(t, "too great", d, "more", "")
}

// P19.1: what isn't sure of the file is a record, too, and isn't made sure.
func TestOpenTail(t *testing.T) {
	d := holding(t, "log", framed(t, "a"))
	must(t, "tail", d.Append("log", []byte(framed(t, "b")+"rest")))
	opened(t, d, "log", "a", "b")
	checkFile(t, "tail", d, "log", framed(t, "a", "b"))
	checkSure(t, "tail", d, "log", framed(t, "a"))
	opened(t, d, "log", "a")
}

// P19.1: an error of the disk within the cutting off is told; whether it is done then hangs on the disk alone.
func TestOpenCut(t *testing.T) {
	for part := range 3 {
		for _, keep := range []int{0, 1, plenty} {
			good := framed(t, "a", "bc")
			d := holding(t, "log", good+"rest")
			cut(t, d, 0, part, keep)
			checkRefused(t, "cut", d, "log", api.ErrPower)
			if !d.Off() {
				t.Fatal("the power is on")
			}
			checkRefused(t, "off", d, "log", api.ErrPower)
			d.On()
			want := good + "rest"
			if part > 0 {
				want = good
			}
			checkFile(t, "cut", d, "log", want)
			opened(t, d, "log", "a", "bc")
			checkFile(t, "opened again", d, "log", good)
		}
	}
}

// P19.1: where nothing lies behind, a Cut that is to come isn't used up.
func TestOpenLeavesCut(t *testing.T) {
	for _, name := range []string{"log", "none", "empty"} {
		d := holding(t, "log", framed(t, "a"))
		must(t, "empty", d.Append("empty", nil))
		cut(t, d, 0, 0, 0)
		if _, _, e := wal.Open(d, name); e != api.OK || d.Off() {
			t.Errorf("Open of %q: error %d, off %v", name, e, d.Off())
		}
		if e := d.Sync("log"); e != api.ErrPower || !d.Off() {
			t.Errorf("behind Open of %q: error %d, off %v", name, e, d.Off())
		}
	}
}

// P19.1: the bodies are in new memory.
func TestOpenBodiesAreNew(t *testing.T) {
	good := framed(t, "first", "", "third")
	d := holding(t, "log", good)
	l, one, _ := wal.Open(d, "log")
	_, two, _ := wal.Open(d, "log")
	for _, b := range one {
		_ = append(b, "spoilt"...)
		clear(b[:cap(b)])
	}
	if got := texts(two); !slices.Equal(got, []string{"first", "", "third"}) {
		t.Errorf("another answer was changed: %q", got)
	}
	if len(one[0]) != 5 || string(one[2]) != "\x00\x00\x00\x00\x00" {
		t.Errorf("the answer is %q", one)
	}
	clear(one[:cap(one)])
	checkCounts(t, "spoilt", l, 3, 0)
	must(t, "spoilt", put(l, "more"))
	opened(t, d, "log", "first", "", "third", "more")
}
