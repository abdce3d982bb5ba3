package wal_test

import (
	"strconv"
	"testing"

	"osier/api"
	"osier/disk"
	"osier/wal"
)

// P19.2: Sync makes sure of all records, by one operation, also of those that were there when it was opened.
func TestSync(t *testing.T) {
	d := disk.New(plenty)
	l := opened(t, d, "log")
	must(t, "two", put(l, "a"), put(l, "bc"))
	checkCounts(t, "two", l, 2, 0)
	for range 3 {
		// Also where all are sure already.
		if n := operations(t, d, func() { must(t, "Sync", l.Sync()) }); n != 1 {
			t.Errorf("Sync did %d operations", n)
		}
		checkCounts(t, "Sync", l, 2, 2)
	}
	must(t, "three", put(l, ""))
	checkCounts(t, "three", l, 3, 2)
	checkSure(t, "three", d, "log", framed(t, "a", "bc"))
	m := opened(t, d, "log", "a", "bc")
	must(t, "again", put(m, "d"), put(m, "e"), m.Sync(), put(m, "f"))
	checkCounts(t, "again", m, 5, 4)
	checkSure(t, "again", d, "log", framed(t, "a", "bc", "d", "e"))
}

// P19.2: what was there, and is in no way sure, is made sure.
func TestSyncOpened(t *testing.T) {
	d := disk.New(plenty)
	must(t, "a tail", d.Append("log", []byte(framed(t, "a", "b")+"rest")), d.Append("other", []byte("xyz")))
	l := opened(t, d, "log", "a", "b")
	must(t, "Sync", l.Sync())
	checkCounts(t, "Sync", l, 2, 2)
	cut(t, d, 0, 0, 0)
	d.Remove("")
	d.On()
	checkFile(t, "Sync", d, "log", framed(t, "a", "b"))
	checkFile(t, "no other file", d, "other", "")
}

// P19.2: no records: OK, and nothing is done, whether there is a file or not, and also while the power is off.
func TestSyncNone(t *testing.T) {
	for _, bytes := range []string{"", "rest", "\x00\x00\x00\x00"} {
		for _, name := range []string{"log", "none"} {
			d := disk.New(plenty)
			must(t, "ahead", d.Append("log", []byte(bytes)))
			l := opened(t, d, name)
			if n := operations(t, d, func() { must(t, "Sync", l.Sync(), l.Sync()) }); n != 0 {
				t.Errorf("Sync did %d operations", n)
			}
			cut(t, d, 0, 0, plenty)
			d.Remove("")
			for range 3 {
				must(t, "off", l.Sync())
				checkCounts(t, "off", l, 0, 0)
			}
			d.On()
			// It was told nothing of the power.
			must(t, "on again", l.Sync(), put(l, "a"), l.Sync())
			checkCounts(t, "on again", l, 1, 1)
			opened(t, d, name, "a")
		}
	}
}

// P19.2: no records, but an Append was answered an error of the disk: Sync answers that one.
func TestSyncNoneBroken(t *testing.T) {
	for _, part := range []int{0, 1, 9} {
		d := disk.New(plenty)
		l := opened(t, d, "log")
		cut(t, d, 0, part, plenty)
		if e := put(l, "a"); e != api.ErrPower {
			t.Errorf("Append: error %d", e)
		}
		checkBroken(t, d, 0, 0, l)
		d.On()
		checkBroken(t, d, 0, 0, l)
	}
}

// P19.2: ErrPower, and from then on for each Append and Sync, which do nothing, also when the power is on again.
func TestSyncPower(t *testing.T) {
	for _, within := range []bool{false, true} {
		d := disk.New(plenty)
		l := opened(t, d, "log")
		must(t, "ahead", put(l, "a"), l.Sync(), put(l, "bc"), put(l, "d"))
		cut(t, d, 0, 1, 12)
		if !within {
			d.Remove("")
		}
		if e := l.Sync(); e != api.ErrPower {
			t.Errorf("Sync: error %d", e)
		}
		checkBroken(t, d, 3, 1, l)
		d.On()
		was := framed(t, "a", "bc") + framed(t, "d")[:2]
		checkFile(t, "torn", d, "log", was)
		if n := operations(t, d, func() { checkBroken(t, d, 3, 1, l) }); n != 0 {
			t.Errorf("%d operations were done", n)
		}
		checkFile(t, "nothing is done", d, "log", was)
		opened(t, d, "log", "a", "bc")
	}
}

// P19.2: any other error of the disk is kept, too: here the file is gone.
func TestSyncGone(t *testing.T) {
	d := disk.New(plenty)
	l := opened(t, d, "log")
	must(t, "ahead", put(l, "a"), l.Sync(), put(l, "b"), d.Remove("log"))
	for range 3 {
		if e := l.Sync(); e != api.ErrNone {
			t.Errorf("Sync: error %d", e)
		}
		if e := put(l, "c"); e != api.ErrNone {
			t.Errorf("Append: error %d", e)
		}
		checkCounts(t, "gone", l, 2, 1)
	}
	if len(d.Names()) != 0 {
		t.Errorf("there is %q", d.Names())
	}
	// It is the first one that is answered, whatever the disk would say now.
	must(t, "there again", d.Append("log", nil))
	cut(t, d, 0, 0, 0)
	d.Remove("")
	if e, f := l.Sync(), put(l, "d"); e != api.ErrNone || f != api.ErrNone {
		t.Errorf("off: Sync: error %d, Append: error %d", e, f)
	}
	d.On()
	if e, f := l.Sync(), put(l, "d"); e != api.ErrNone || f != api.ErrNone {
		t.Errorf("on: Sync: error %d, Append: error %d", e, f)
	}
	checkFile(t, "nothing is done", d, "log", "")
}

// P19.2: Count and Sure behind each call, of a log that is opened with records.
func TestCounts(t *testing.T) {
	d := holding(t, "log", framed(t, "a", "b", "c"))
	l := opened(t, d, "log", "a", "b", "c")
	for i, x := range []struct {
		call        func(l *wal.Log) api.Errno
		want        api.Errno
		count, sure int
	}{
		{func(l *wal.Log) api.Errno { return put(l, "d") }, api.OK, 4, 0},
		{(*wal.Log).Sync, api.OK, 4, 4},
		{func(l *wal.Log) api.Errno { return put(l, repeated("x", plenty)) }, api.ErrFull, 4, 4},
		{func(l *wal.Log) api.Errno { return put(l, "") }, api.OK, 5, 4},
		{func(l *wal.Log) api.Errno { return put(l, repeated("x", api.MaxBody+1)) }, api.ErrLimit, 5, 4},
		{func(l *wal.Log) api.Errno { return put(l, "e") }, api.OK, 6, 4},
		{(*wal.Log).Sync, api.OK, 6, 6},
		{(*wal.Log).Sync, api.OK, 6, 6},
		{func(l *wal.Log) api.Errno { return put(l, "f") }, api.OK, 7, 6},
		{func(l *wal.Log) api.Errno { d.Cut(0, 0, 0); return l.Sync() }, api.ErrPower, 7, 6},
		{func(l *wal.Log) api.Errno { d.On(); return put(l, "g") }, api.ErrPower, 7, 6},
		{(*wal.Log).Sync, api.ErrPower, 7, 6},
	} {
		if e := x.call(l); e != x.want {
			t.Errorf("call %d: error %d, not %d", i, e, x.want)
		}
		checkCounts(t, "behind call "+strconv.Itoa(i), l, x.count, x.sure)
	}
	opened(t, d, "log", "a", "b", "c", "d", "", "e")
}
