package disk_test

import (
	"math"
	"slices"
	"testing"

	"osier/api"
	"osier/disk"
)

// anyStep are steps of each kind behind three, of which some would be refused.
func anyStep() []step {
	return append(wrong(), putting("a", "e"), putting("d", ""), syncing("a"), renaming("a", "b"), renaming("a", "a"), removing("a"), shortening("a", 1), shortening("a", 9))
}

// P18.5: while the power is off each operation and Read answer ErrPower, whatever else may be wrong, and do nothing; Names and Room are told.
func TestOff(t *testing.T) {
	d := after(t, 10, three()...)
	cut(t, d, 0, 0, 1)
	d.Sync("a")
	for range 3 {
		for _, s := range anyStep() {
			if e := s.call(d); e != api.ErrPower || !d.Off() {
				t.Errorf("%s: error %d, off %v", s.what, e, d.Off())
			}
		}
		for _, name := range append(absent(), "a", "b", "c") {
			if b, e := d.Read(name); len(b) != 0 || e != api.ErrPower {
				t.Errorf("Read of %q: %q, error %d", name, b, e)
			}
		}
		checkDark(t, "while it is off", d, 10, lit(1, "")...)
	}
	names := d.Names()
	clear(names)
	checkDark(t, "an answer was changed", d, 10, lit(1, "")...)
	d.On()
	checkFiles(t, "on again", d, 10, lit(1, "")...)
	checkSure(t, "on again", d, 10, lit(1, "")...)
}

// P18.5: while the power is off Names and Room are told as if it were on, of no files, too.
func TestOffEmpty(t *testing.T) {
	for _, room := range []int{0, 1, 100} {
		d := disk.New(room)
		cut(t, d, 0, 3, 3)
		if e := d.Remove("a"); e != api.ErrPower {
			t.Errorf("Remove: error %d", e)
		}
		if !d.Off() || d.Room() != room || len(d.Names()) != 0 {
			t.Errorf("off %v, room %d, %q", d.Off(), d.Room(), d.Names())
		}
		d.On()
		if d.Off() || d.Room() != room || len(d.Names()) != 0 {
			t.Errorf("off %v, room %d, %q", d.Off(), d.Room(), d.Names())
		}
	}
}

// P18.5: once the power is on again each call is what it was, and no Cut is left, however much was asked while it was off.
func TestOnAgain(t *testing.T) {
	for _, s := range anyStep() {
		d := after(t, 10, three()...)
		cut(t, d, 0, 5, 9)
		d.Sync("a")
		for range 5 {
			s.call(d)
		}
		d.On()
		other := after(t, 10, append(three(), syncing("a"), syncing("c"))...)
		if got, want := s.call(d), s.call(other); got != want {
			t.Errorf("%s: error %d, not %d", s.what, got, want)
		}
		checkFiles(t, s.what, d, 10, on(t, other)...)
		for range 20 {
			d.Sync("b")
		}
		checkSure(t, s.what, d, 10, on(t, torn(t, other))...)
	}
}

// P18.5: On forgets a Cut that hasn't come about, also where the power is on; but for that it changes nothing then.
func TestOnForgets(t *testing.T) {
	for ops := range 4 {
		d := after(t, 100, three()...)
		cut(t, d, ops, 0, 0)
		for range ops / 2 {
			must(t, d, syncing("b"))
		}
		d.On()
		for range 10 {
			must(t, d, syncing("b"))
		}
		checkFiles(t, "a Cut is forgotten", d, 100, files("a", "abcd", "b", "xyz", "c", "pq")...)
		checkSure(t, "a Cut is forgotten", d, 100, lit(0, "")...)
	}
	d := after(t, 100, three()...)
	for range 3 {
		d.On()
		checkFiles(t, "On of what is on", d, 100, files("a", "abcd", "b", "xyz", "c", "pq")...)
	}
	checkSure(t, "On of what is on", d, 100, lit(0, "")...)
	cut(t, d, 1, 0, 0)
	d.On()
	cut(t, d, 0, 1, 0)
	if e := d.Remove("b"); e != api.ErrPower || !slices.Equal(d.Names(), []string{"a", "c"}) {
		t.Errorf("a Cut behind a forgotten one: error %d, %q", e, d.Names())
	}
}

// P18.5: each call of nil, whatever is handed in.
func TestNil(t *testing.T) {
	var d *disk.Disk
	for _, s := range anyStep() {
		if e := s.call(d); e != api.ErrArg {
			t.Errorf("%s: error %d", s.what, e)
		}
	}
	for _, name := range append(notNames(), "a") {
		if b, e := d.Read(name); len(b) != 0 || e != api.ErrArg {
			t.Errorf("Read of %q: %q, error %d", name, b, e)
		}
	}
	for _, n := range []int{-1, 0, 1, math.MaxInt, math.MinInt} {
		if e := d.Cut(n, n, n); e != api.ErrArg {
			t.Errorf("Cut of %d: error %d", n, e)
		}
	}
	d.On()
	if d.Off() || d.Room() != 0 || len(d.Names()) != 0 {
		t.Errorf("of nil: off %v, room %d, %q", d.Off(), d.Room(), d.Names())
	}
}
