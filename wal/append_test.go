package wal_test

import (
	"slices"
	"strconv"
	"testing"

	"osier/api"
	"osier/disk"
	"osier/wal"
)

// P19.2: the frames lie one behind the other, and each is one record more; none is made sure.
func TestAppend(t *testing.T) {
	for _, row := range rows() {
		d := disk.New(plenty)
		l := opened(t, d, "log")
		for i, body := range row {
			if n := operations(t, d, func() { must(t, "Append", put(l, body)) }); n != 1 {
				t.Errorf("Append did %d operations", n)
			}
			checkCounts(t, "Append", l, i+1, 0)
			checkFile(t, "Append", d, "log", framed(t, row[:i+1]...))
		}
		opened(t, d, "log", row...)
	}
}

// P19.2: no bytes are a body, too.
func TestAppendNothing(t *testing.T) {
	d := disk.New(100)
	l := opened(t, d, "log")
	must(t, "nothing", l.Append(nil), l.Append([]byte{}))
	checkCounts(t, "nothing", l, 2, 0)
	checkFile(t, "nothing", d, "log", "\x00\x00\x00\x00\xc7\x4b\x67\x48\x00\x00\x00\x00\xc7\x4b\x67\x48")
	opened(t, d, "log", "", "")
}

// P19.2: behind the records that were there, in a file of any name; no other file is changed.
func TestAppendBehind(t *testing.T) {
	for _, name := range names() {
		d := holding(t, name, framed(t, "a", "bc")+"rest")
		must(t, "other", d.Append("other", []byte("xyz")))
		l := opened(t, d, name, "a", "bc")
		must(t, "behind", put(l, ""), put(l, "d"))
		checkCounts(t, "behind", l, 4, 0)
		checkFile(t, "behind", d, name, framed(t, "a", "bc", "", "d"))
		checkFile(t, "other", d, "other", "xyz")
		checkSure(t, "behind", d, name, framed(t, "a", "bc"))
	}
}

// P19.2: a body of more bytes than a frame takes: nothing is written, and the log goes on.
func TestAppendTooLong(t *testing.T) {
	d := disk.New(1 << 25)
	l := opened(t, d, "log")
	for _, n := range []int{api.MaxBody + 1, api.MaxBody + 2, api.MaxBody + 1000, 1 << 23} {
		used := operations(t, d, func() {
			if e := l.Append(make([]byte, n)); e != api.ErrLimit {
				t.Errorf("Append of %d bytes: error %d", n, e)
			}
		})
		if used != 0 || len(d.Names()) != 0 {
			t.Errorf("Append of %d bytes did %d operations, and there is %q", n, used, d.Names())
		}
		checkCounts(t, "too long", l, 0, 0)
		must(t, "too long", l.Sync())
	}
	longest := repeated("x", api.MaxBody)
	must(t, "the longest", put(l, longest), put(l, "a"))
	if e := l.Append(make([]byte, api.MaxBody+1)); e != api.ErrLimit {
		t.Errorf("Append: error %d", e)
	}
	must(t, "the longest", put(l, "b"), l.Sync())
	checkCounts(t, "the longest", l, 3, 3)
	opened(t, d, "log", longest, "a", "b")
}

// P19.2: that a body is too long is told ahead of what the disk would say: that there is no room, or that the power is off, which the log isn't told then.
func TestAppendErrorOrder(t *testing.T) {
	d := holding(t, "log", framed(t, "a"))
	l := opened(t, d, "log", "a")
	cut(t, d, 0, 0, plenty)
	d.Remove("")
	if e := l.Append(make([]byte, api.MaxBody+1)); e != api.ErrLimit {
		t.Errorf("Append: error %d", e)
	}
	d.On()
	must(t, "goes on", put(l, "b"), l.Sync())
	checkCounts(t, "goes on", l, 2, 2)
	opened(t, d, "log", "a", "b")
}

// P19.2: at the room's end: ErrFull, nothing is written, and the log goes on.
func TestAppendFull(t *testing.T) {
	room := len(framed(t, "first", "second"))
	d := disk.New(room)
	l := opened(t, d, "log")
	must(t, "first", put(l, "first"))
	for _, body := range []string{"second1", "second12", repeated("x", room), repeated("x", 1000)} {
		for range 3 {
			if e := put(l, body); e != api.ErrFull {
				t.Errorf("Append of %d bytes: error %d", len(body), e)
			}
		}
		checkCounts(t, "full", l, 1, 0)
		checkFile(t, "full", d, "log", framed(t, "first"))
	}
	must(t, "goes on", l.Sync(), put(l, "second"))
	checkCounts(t, "goes on", l, 2, 1)
	if e := put(l, ""); e != api.ErrFull {
		t.Errorf("Append of nothing: error %d", e)
	}
	must(t, "goes on", l.Sync(), l.Sync())
	checkCounts(t, "goes on", l, 2, 2)
	opened(t, d, "log", "first", "second")
}

// P19.2: no room for a first record, or for a file: the log has no records, and Sync is OK; it goes on when there is room.
func TestAppendFullAtFirst(t *testing.T) {
	d := disk.New(20)
	must(t, "much", d.Append("much", make([]byte, 13)))
	for i := range api.MaxFiles - 1 {
		must(t, "files", d.Append("f"+strconv.Itoa(i), nil))
	}
	l := opened(t, d, "log")
	for _, step := range []func(){func() {}, func() { must(t, "shortened", d.Shorten("much", 5)) }} {
		step()
		if e := put(l, ""); e != api.ErrFull {
			t.Errorf("Append: error %d", e)
		}
		must(t, "Sync", l.Sync())
		checkCounts(t, "full", l, 0, 0)
		if slices.Contains(d.Names(), "log") {
			t.Error("there is a file")
		}
	}
	must(t, "room", d.Remove("f7"), put(l, ""), l.Sync())
	checkCounts(t, "room", l, 1, 1)
	opened(t, d, "log", "")
}

// P19.2: ErrPower, and from then on for each Append and Sync, which do nothing, also when the power is on again, and also of bodies that are too long.
func TestAppendPower(t *testing.T) {
	for _, part := range []int{0, 1, 8, 9, 10, plenty} {
		d := holding(t, "log", framed(t, "a"))
		l := opened(t, d, "log", "a")
		must(t, "ahead", put(l, "bc"), l.Sync(), put(l, "d"))
		cut(t, d, 0, part, plenty)
		if e := put(l, "xy"); e != api.ErrPower {
			t.Errorf("Append: error %d", e)
		}
		checkBroken(t, d, 3, 2, l)
		d.On()
		was := framed(t, "a", "bc", "d") + framed(t, "xy")[:min(part, 10)]
		checkFile(t, "torn", d, "log", was)
		n := operations(t, d, func() { checkBroken(t, d, 3, 2, l) })
		if n != 0 {
			t.Errorf("%d operations were done", n)
		}
		checkFile(t, "nothing is done", d, "log", was)
		// Another log goes on; this one doesn't.
		want := []string{"a", "bc", "d"}
		if part >= 10 {
			want = append(want, "xy")
		}
		m := opened(t, d, "log", want...)
		must(t, "another one", put(m, "e"), m.Sync())
		checkBroken(t, d, 3, 2, l)
		opened(t, d, "log", append(want, "e")...)
	}
}

// checkBroken looks that all calls of a log answer ErrPower, and change nothing.
func checkBroken(t *testing.T, d *disk.Disk, count, sure int, l *wal.Log) {
	t.Helper()
	for range 3 {
		for _, n := range []int{0, 1, 1000, api.MaxBody + 1} {
			if e := l.Append(make([]byte, n)); e != api.ErrPower {
				t.Errorf("off %v: Append of %d bytes: error %d", d.Off(), n, e)
			}
		}
		if e := l.Sync(); e != api.ErrPower {
			t.Errorf("off %v: Sync: error %d", d.Off(), e)
		}
		checkCounts(t, "broken", l, count, sure)
	}
}

// P19.2: the power is off already when a record is to come: likewise; also where there is none so far.
func TestAppendOff(t *testing.T) {
	for _, row := range rows() {
		d := disk.New(plenty)
		l := opened(t, d, "log")
		for _, body := range row {
			must(t, "ahead", put(l, body))
		}
		cut(t, d, 0, 0, plenty)
		d.Remove("")
		if e := put(l, "x"); e != api.ErrPower {
			t.Errorf("Append: error %d", e)
		}
		checkBroken(t, d, len(row), 0, l)
		d.On()
		checkBroken(t, d, len(row), 0, l)
		opened(t, d, "log", row...)
	}
}

// P19.2: a power that goes off and on while nobody calls the log isn't told to it.
func TestAppendUnseen(t *testing.T) {
	d := holding(t, "log", framed(t, "a"))
	l := opened(t, d, "log", "a")
	cut(t, d, 0, 0, 0)
	d.Remove("")
	d.On()
	must(t, "unseen", put(l, "b"), l.Sync())
	checkCounts(t, "unseen", l, 2, 2)
	opened(t, d, "log", "a", "b")
}

// Rule 3: what is handed in isn't changed, and isn't kept.
func TestAppendKeepsNothing(t *testing.T) {
	d := disk.New(plenty)
	l := opened(t, d, "log")
	b := []byte("0123456789")
	must(t, "pieces", l.Append(b[2:4]), l.Append(b[:0]), l.Append(b[4:8]), l.Append(b))
	if string(b) != "0123456789" {
		t.Errorf("what was handed in was changed: %q", b)
	}
	clear(b)
	must(t, "Sync", l.Sync())
	opened(t, d, "log", "23", "", "4567", "0123456789")
}
