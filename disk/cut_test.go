package disk_test

import (
	"math"
	"strconv"
	"testing"

	"osier/api"
	"osier/disk"
)

// much are numbers that are more than any file here has bytes.
func much() []int { return []int{100, 1 << 31, 1 << 32, math.MaxInt - 1, math.MaxInt} }

// checkTorn looks what is left where the power goes off within a step behind some others: that the step answers ErrPower, what is told while it is off, and what is there, and sure, once it is on again.
func checkTorn(t *testing.T, room int, ahead []step, s step, part, keep int, want ...held) {
	t.Helper()
	d := after(t, room, ahead...)
	cut(t, d, 0, part, keep)
	what := s.what + ", cut " + strconv.Itoa(part) + ", " + strconv.Itoa(keep)
	if e := s.call(d); e != api.ErrPower || !d.Off() {
		t.Fatalf("%s: error %d, off %v", what, e, d.Off())
	}
	checkDark(t, what, d, room, want...)
	d.On()
	checkFiles(t, what, d, room, want...)
	checkSure(t, what, d, room, want...)
}

// checkDark looks at what is told of files while the power is off.
func checkDark(t *testing.T, what string, d *disk.Disk, room int, want ...held) {
	t.Helper()
	if got := d.Room(); got != room-sum(want) {
		t.Errorf("%s: while it is off there is room for %d, not for %d", what, got, room-sum(want))
	}
	names := d.Names()
	for i, f := range want {
		if i >= len(names) || names[i] != f.name {
			t.Fatalf("%s: while it is off there is %q, not %q", what, names, want)
		}
		if b, e := d.Read(f.name); len(b) != 0 || e != api.ErrPower {
			t.Errorf("%s: while it is off %q is %q, error %d", what, f.name, b, e)
		}
	}
	if len(names) != len(want) {
		t.Errorf("%s: while it is off there is %q, not %q", what, names, want)
	}
}

// lit are the files of three with tails of which so many bytes are kept, but for some of a name that are others.
func lit(keep int, name string, other ...held) []held {
	tail := func(s string) string { return s[:min(keep, len(s))] }
	var out []held
	for _, f := range files("a", "ab"+tail("cd"), "b", "xyz", "c", tail("pq")) {
		if f.name == name {
			out = append(out, other...)
		} else {
			out = append(out, f)
		}
	}
	return out
}

// P18.4: a number below 0, whichever it is, also while the power is off; nothing is cut by it.
func TestCutErrors(t *testing.T) {
	for _, n := range [][3]int{{-1, 0, 0}, {0, -1, 0}, {0, 0, -1}, {-1, -1, -1}, {math.MinInt, 1, 1}, {1, math.MinInt, 1}, {1, 1, math.MinInt}, {-5, 3, math.MaxInt}} {
		d := after(t, 100, three()...)
		if e := d.Cut(n[0], n[1], n[2]); e != api.ErrArg {
			t.Errorf("Cut of %v: error %d", n, e)
		}
		must(t, d, syncing("a"), putting("a", "e"), removing("b"), renaming("c", "b"), shortening("b", 1))
		checkFiles(t, "a Cut that was refused", d, 100, files("a", "abcde", "b", "p")...)
		torn(t, d)
		cut(t, d, 0, 0, 0)
		d.Sync("a")
		if e := d.Cut(n[0], n[1], n[2]); e != api.ErrArg {
			t.Errorf("Cut of %v, while the power is off: error %d", n, e)
		}
		if e := d.Cut(0, 0, 0); e != api.ErrPower {
			t.Errorf("Cut while the power is off: error %d", e)
		}
		if e := d.Cut(math.MaxInt, math.MaxInt, math.MaxInt); e != api.ErrPower {
			t.Errorf("Cut while the power is off: error %d", e)
		}
		d.On()
		must(t, d, syncing("a"), syncing("a"))
	}
}

// P18.4: the power goes off within the operation that is so many further on, of whatever kinds they are; all ahead are done whole.
func TestCutWhen(t *testing.T) {
	for ops := range 40 {
		d := after(t, 1000, putting("a", ""), putting("b", "x"))
		cut(t, d, ops, 0, 0)
		row := []step{putting("a", "y"), syncing("a"), shortening("b", 0), renaming("a", "a"), putting("c", "z"), removing("c"), putting("b", "x")}
		for i := range ops {
			must(t, d, row[i%len(row)])
			if d.Off() {
				t.Fatalf("cut %d further on, the power is off behind %d", ops, i+1)
			}
		}
		if e := row[ops%len(row)].call(d); e != api.ErrPower || !d.Off() {
			t.Fatalf("cut %d further on: error %d, off %v", ops, e, d.Off())
		}
		d.On()
		for range 50 {
			must(t, d, row...)
		}
	}
	d := after(t, 100, three()...)
	cut(t, d, math.MaxInt, 0, 0)
	for range 1000 {
		must(t, d, syncing("a"))
	}
}

// P18.4: what is done ahead of the cut is done, and what of it is sure stays.
func TestCutAhead(t *testing.T) {
	d := after(t, 100, three()...)
	cut(t, d, 4, 1, 2)
	must(t, d, putting("a", "efg"), syncing("c"), putting("c", "rst"), renaming("b", "d"))
	checkFiles(t, "ahead of the cut", d, 100, files("a", "abcdefg", "c", "pqrst", "d", "xyz")...)
	if e := d.Append("d", []byte("123")); e != api.ErrPower {
		t.Errorf("Append: error %d", e)
	}
	d.On()
	checkFiles(t, "behind the cut", d, 100, files("a", "abcd", "c", "pqrs", "d", "xyz1")...)
	checkSure(t, "behind the cut", d, 100, files("a", "abcd", "c", "pqrs", "d", "xyz1")...)
}

// P18.4: a later Cut holds instead of an earlier one, whichever of both would come first; one that is refused doesn't.
func TestCutAgain(t *testing.T) {
	for _, ops := range [][2]int{{0, 3}, {3, 0}, {1, 1}, {5, 2}, {0, 0}, {math.MaxInt, 1}} {
		d := after(t, 100, three()...)
		cut(t, d, ops[0], 0, 0)
		for range min(ops[0], 2) {
			must(t, d, syncing("b"))
		}
		cut(t, d, ops[1], 2, 1)
		d.Cut(-1, 0, 0)
		d.Cut(0, -1, 0)
		d.Cut(0, 0, -1)
		for range ops[1] {
			must(t, d, syncing("b"))
		}
		if e := d.Append("c", []byte("rst")); e != api.ErrPower {
			t.Errorf("cut %v: error %d", ops, e)
		}
		d.On()
		checkFiles(t, "the later Cut", d, 100, files("a", "abc", "b", "xyz", "c", "p")...)
		must(t, d, syncing("a"), syncing("a"), syncing("a"), syncing("a"))
	}
}

// wrong are steps behind three that are refused where there is room for one byte more.
func wrong() []step {
	return []step{
		putting("", "x"), putting("a b", ""), putting(repeated("a", 33), "x"), putting("a", "ef"), putting("d", "ef"),
		syncing("d"), syncing(""), renaming("a", ""), renaming("a", "b c"), renaming("d", "a"), renaming("d", "d"),
		removing("d"), removing(""), shortening("d", 0), shortening("d", -1), shortening("a", -1), shortening("b", math.MinInt),
	}
}

// P18.4: an operation that answers an error counts as any other one.
func TestCutErrorsCount(t *testing.T) {
	for _, s := range wrong() {
		for ops := 1; ops < 4; ops++ {
			d := after(t, 10, three()...)
			cut(t, d, ops, 0, 1)
			for range ops {
				if e := s.call(d); e == api.OK || e == api.ErrPower || d.Off() {
					t.Errorf("%s, ahead of the cut: error %d, off %v", s.what, e, d.Off())
				}
			}
			checkFiles(t, s.what, d, 10, files("a", "abcd", "b", "xyz", "c", "pq")...)
			if e := d.Sync("a"); e != api.ErrPower || !d.Off() {
				t.Errorf("behind %s, %d times: error %d, off %v", s.what, ops, e, d.Off())
			}
			d.On()
			checkFiles(t, s.what, d, 10, lit(1, "")...)
		}
	}
}

// P18.4: where the operation within which the power goes off would answer an error, nothing of it happens, however much is done; it answers ErrPower, and tails are torn.
func TestCutWithinError(t *testing.T) {
	for _, s := range wrong() {
		for _, part := range append(much(), 0, 1, 2) {
			for keep := range 4 {
				checkTorn(t, 10, three(), s, part, keep, lit(keep, "")...)
			}
		}
	}
	for _, part := range []int{0, 1, 5} {
		d := after(t, 1000, append(hundred(), syncing("f3"))...)
		cut(t, d, 0, part, 0)
		if e := d.Append("a", []byte("xyz")); e != api.ErrPower || len(d.Names()) != api.MaxFiles || d.Room() != 999 {
			t.Errorf("one file more, %d: error %d, %d files, room for %d", part, e, len(d.Names()), d.Room())
		}
	}
}

// P18.4: what isn't an operation doesn't count: what is only looked at, and a Cut.
func TestCutOthersDontCount(t *testing.T) {
	d := after(t, 100, three()...)
	cut(t, d, 1, 0, 0)
	for range 20 {
		d.Names()
		d.Room()
		d.Off()
		d.Read("a")
		d.Read("d")
		d.Read("")
		d.Cut(-1, -1, -1)
	}
	must(t, d, putting("a", "e"))
	for range 20 {
		d.Names()
		d.Room()
		d.Read("b")
		d.Read("no name")
	}
	if d.Off() {
		t.Fatal("the power is off")
	}
	checkFiles(t, "looked at", d, 100, files("a", "abcde", "b", "xyz", "c", "pq")...)
	if e := d.Sync("b"); e != api.ErrPower {
		t.Errorf("Sync: error %d", e)
	}
}

// P18.4: of an Append the first bytes are put there, and are of the tail of which some is kept.
func TestCutAppend(t *testing.T) {
	for _, part := range append(much(), 0, 1, 2, 3, 4) {
		put := "efg"[:min(part, 3)]
		for _, keep := range append(much(), 0, 1, 2, 3, 4, 5, 6, 7) {
			tail := func(s string) string { return s[:min(keep, len(s))] }
			s := putting("a", "efg")
			checkTorn(t, 100, three(), s, part, keep, lit(keep, "a", held{"a", "ab" + tail("cd"+put)})...)
			checkTorn(t, 12, three(), s, part, keep, lit(keep, "a", held{"a", "ab" + tail("cd"+put)})...)
			checkTorn(t, 100, three(), putting("b", "efg"), part, keep, lit(keep, "b", held{"b", "xyz" + tail(put)})...)
			checkTorn(t, 100, three(), putting("c", "efg"), part, keep, lit(keep, "c", held{"c", tail("pq" + put)})...)
			checkTorn(t, 100, three(), putting("d", "efg"), part, keep, append(lit(keep, ""), held{"d", tail(put)})...)
			checkTorn(t, 100, nil, putting("d", "efg"), part, keep, held{"d", tail(put)})
			checkTorn(t, 100, nil, putting("d", ""), part, keep, held{"d", ""})
			checkTorn(t, 100, three(), putting("a", ""), part, keep, lit(keep, "")...)
		}
	}
}

// P18.4: a Sync isn't done, however much is said to be.
func TestCutSync(t *testing.T) {
	for _, part := range append(much(), 0, 1, 2, 3) {
		for _, keep := range append(much(), 0, 1, 2, 3) {
			for _, name := range []string{"a", "b", "c"} {
				checkTorn(t, 100, three(), syncing(name), part, keep, lit(keep, "")...)
			}
		}
	}
}

// P18.4: a Rename is done, if part isn't 0.
func TestCutRename(t *testing.T) {
	for _, keep := range append(much(), 0, 1, 2, 3) {
		a, c := lit(keep, "")[0].bytes, lit(keep, "")[2].bytes
		for _, s := range []step{renaming("a", "d"), renaming("a", "b"), renaming("b", "a"), renaming("c", "b"), renaming("a", "a")} {
			checkTorn(t, 100, three(), s, 0, keep, lit(keep, "")...)
		}
		for _, part := range append(much(), 1, 2) {
			checkTorn(t, 100, three(), renaming("a", "d"), part, keep, files("b", "xyz", "c", c, "d", a)...)
			checkTorn(t, 100, three(), renaming("a", "b"), part, keep, files("b", a, "c", c)...)
			checkTorn(t, 100, three(), renaming("b", "a"), part, keep, files("a", "xyz", "c", c)...)
			checkTorn(t, 100, three(), renaming("c", "b"), part, keep, files("a", a, "b", c)...)
			checkTorn(t, 100, three(), renaming("a", "a"), part, keep, lit(keep, "")...)
		}
	}
}

// P18.4: a Remove is done, if part isn't 0.
func TestCutRemove(t *testing.T) {
	for _, name := range []string{"a", "b", "c"} {
		for _, keep := range append(much(), 0, 1, 2, 3) {
			checkTorn(t, 100, three(), removing(name), 0, keep, lit(keep, "")...)
			for _, part := range append(much(), 1, 2) {
				checkTorn(t, 100, three(), removing(name), part, keep, lit(keep, name)...)
			}
		}
	}
}

// P18.4: a Shorten is done whole, if part isn't 0; tails are torn behind it.
func TestCutShorten(t *testing.T) {
	for _, keep := range append(much(), 0, 1, 2, 3) {
		for _, n := range append(much(), 0, 1, 2, 3, 4, 5) {
			checkTorn(t, 100, three(), shortening("a", n), 0, keep, lit(keep, "")...)
			for _, part := range append(much(), 1, 2) {
				left := "abcd"[:min(n, 4)]
				if n > 2 {
					left = "ab" + left[2:][:min(keep, len(left)-2)]
				}
				checkTorn(t, 100, three(), shortening("a", n), part, keep, lit(keep, "a", held{"a", left})...)
				checkTorn(t, 100, three(), shortening("b", n), part, keep, lit(keep, "b", held{"b", "xyz"[:min(n, 3)]})...)
			}
		}
	}
}

// P18.4: a Cut that came about is over; the next one has tails of its own.
func TestCutTwice(t *testing.T) {
	d := after(t, 100, three()...)
	for turn, want := range [][]held{files("a", "abc", "b", "xyz", "c", "p"), files("a", "abc1", "b", "xyz", "c", "p1"), files("a", "abc11", "b", "xyz", "c", "p11")} {
		cut(t, d, 0, 1, 1)
		if e := d.Sync("a"); e != api.ErrPower {
			t.Errorf("turn %d: error %d", turn, e)
		}
		d.On()
		checkFiles(t, "the next Cut", d, 100, want...)
		must(t, d, putting("a", "123"), putting("c", "123"))
	}
}
