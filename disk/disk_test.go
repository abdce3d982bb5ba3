package disk_test

import (
	"math"
	"math/rand/v2"
	"slices"
	"strconv"
	"strings"
	"testing"

	"osier/api"
	"osier/disk"
)

// The calls, with just the signatures that the chapter lists.
var (
	_ func(room int) *disk.Disk                                    = disk.New
	_ func(d *disk.Disk, name string, b []byte) api.Errno          = (*disk.Disk).Append
	_ func(d *disk.Disk, name string) api.Errno                    = (*disk.Disk).Sync
	_ func(d *disk.Disk, from, to string) api.Errno                = (*disk.Disk).Rename
	_ func(d *disk.Disk, name string) (gone api.Errno)             = (*disk.Disk).Remove
	_ func(d *disk.Disk, name string, n int) api.Errno             = (*disk.Disk).Shorten
	_ func(d *disk.Disk, name string) (b []byte, e api.Errno)      = (*disk.Disk).Read
	_ func(d *disk.Disk) []string                                  = (*disk.Disk).Names
	_ func(d *disk.Disk) int                                       = (*disk.Disk).Room
	_ func(d *disk.Disk, operations, part, keep int) (e api.Errno) = (*disk.Disk).Cut
	_ func(d *disk.Disk) bool                                      = (*disk.Disk).Off
	_ func(d *disk.Disk)                                           = (*disk.Disk).On
)

// held is a file as it is seen.
type held struct{ name, bytes string }

// files are files of names and bytes, by turns.
func files(s ...string) []held {
	var out []held
	for i := 0; i+1 < len(s); i += 2 {
		out = append(out, held{s[i], s[i+1]})
	}
	return out
}

// on is all the files of a disk whose power is on.
func on(t *testing.T, d *disk.Disk) []held {
	t.Helper()
	var out []held
	for _, name := range d.Names() {
		b, e := d.Read(name)
		if e != api.OK {
			t.Fatalf("Read of %q, which is a name: error %d", name, e)
		}
		out = append(out, held{name, string(b)})
	}
	return out
}

// sum is how many bytes files have.
func sum(l []held) int {
	n := 0
	for _, f := range l {
		n += len(f.bytes)
	}
	return n
}

// checkFiles looks that a disk has just these files, by their names, and room for so many bytes beside theirs.
func checkFiles(t *testing.T, what string, d *disk.Disk, room int, want ...held) {
	t.Helper()
	if d.Off() {
		t.Fatalf("%s: the power is off", what)
	}
	if got := on(t, d); !slices.Equal(got, want) {
		t.Errorf("%s: there is %q, not %q", what, got, want)
	}
	if got := d.Room(); got != room-sum(want) {
		t.Errorf("%s: there is room for %d, not for %d", what, got, room-sum(want))
	}
}

// checkSure looks what of a disk's files is sure, by the power that goes off and on.
func checkSure(t *testing.T, what string, d *disk.Disk, room int, want ...held) {
	t.Helper()
	cut(t, d, 0, 0, 0)
	if e := d.Remove(""); e != api.ErrPower || !d.Off() {
		t.Fatalf("%s: the power doesn't go off: error %d", what, e)
	}
	d.On()
	checkFiles(t, what+": sure", d, room, want...)
}

// cut is a Cut that isn't refused.
func cut(t *testing.T, d *disk.Disk, ops, part, keep int) {
	t.Helper()
	if e := d.Cut(ops, part, keep); e != api.OK {
		t.Fatalf("Cut of %d, %d, %d: error %d", ops, part, keep, e)
	}
}

// step is one call of an operation, with what it is called.
type step struct {
	what string
	call func(d *disk.Disk) api.Errno
}

// The steps.
func putting(name, b string) step {
	return step{"Append of " + strconv.Quote(name) + ", " + strconv.Quote(b), func(d *disk.Disk) api.Errno { return d.Append(name, []byte(b)) }}
}

func syncing(name string) step {
	return step{"Sync of " + strconv.Quote(name), func(d *disk.Disk) api.Errno { return d.Sync(name) }}
}

func renaming(from, to string) step {
	return step{"Rename of " + strconv.Quote(from) + ", " + strconv.Quote(to), func(d *disk.Disk) api.Errno { return d.Rename(from, to) }}
}

func removing(name string) step {
	return step{"Remove of " + strconv.Quote(name), func(d *disk.Disk) api.Errno { return d.Remove(name) }}
}

func shortening(name string, n int) step {
	return step{"Shorten of " + strconv.Quote(name) + ", " + strconv.Itoa(n), func(d *disk.Disk) api.Errno { return d.Shorten(name, n) }}
}

// must does steps that are not refused.
func must(t *testing.T, d *disk.Disk, l ...step) {
	t.Helper()
	for _, s := range l {
		if e := s.call(d); e != api.OK {
			t.Fatalf("%s: error %d", s.what, e)
		}
	}
}

// after is a disk on which steps were done.
func after(t *testing.T, room int, l ...step) *disk.Disk {
	t.Helper()
	d := disk.New(room)
	must(t, d, l...)
	return d
}

// checkDone looks what a step that isn't refused leaves behind some others, and what of it is sure.
func checkDone(t *testing.T, room int, ahead []step, s step, want, sure []held) {
	t.Helper()
	d := after(t, room, ahead...)
	must(t, d, s)
	checkFiles(t, s.what, d, room, want...)
	checkSure(t, s.what, d, room, sure...)
}

// checkRefused looks that a step is refused with an error behind some others, and that nothing changes, also what is sure.
func checkRefused(t *testing.T, room int, ahead []step, s step, want api.Errno) {
	t.Helper()
	d := after(t, room, ahead...)
	was := on(t, d)
	if e := s.call(d); e != want {
		t.Errorf("%s: error %d, not %d", s.what, e, want)
	}
	checkFiles(t, s.what, d, room, was...)
	checkSure(t, s.what, d, room, on(t, torn(t, after(t, room, ahead...)))...)
}

// torn is a disk whose power went off and on, so that just what was sure is there.
func torn(t *testing.T, d *disk.Disk) *disk.Disk {
	t.Helper()
	cut(t, d, 0, 0, 0)
	d.Remove("")
	d.On()
	return d
}

// three are steps for three files: a has `ab` sure and `cd` behind it, b is sure, of c nothing is.
func three() []step {
	return []step{putting("a", "ab"), syncing("a"), putting("a", "cd"), putting("b", "xyz"), syncing("b"), putting("c", "p"), putting("c", "q")}
}

// repeated is a text so many times.
func repeated(s string, n int) string { return strings.Repeat(s, n) }

// P18: the chapter's example.
func TestExamples(t *testing.T) {
	d := after(t, 100, putting("a", "ab"), syncing("a"), putting("a", "cd"))
	cut(t, d, 0, 1, 1)
	if e := d.Append("a", []byte("ef")); e != api.ErrPower || !d.Off() {
		t.Errorf("Append: error %d, off %v", e, d.Off())
	}
	d.On()
	checkFiles(t, "the example", d, 100, files("a", "abc")...)
	checkSure(t, "the example", d, 100, files("a", "abc")...)
}

// P18.1: no files, the power is on, and room for just so many bytes.
func TestNew(t *testing.T) {
	for _, room := range []int{1, 2, 3, 100, 255, 256, 65536, 1 << 20} {
		d := disk.New(room)
		if d == nil || d.Off() || d.Room() != room || len(d.Names()) != 0 {
			t.Fatalf("New of %d: off %v, room %d, %q", room, d.Off(), d.Room(), d.Names())
		}
		for _, name := range []string{"", "a", "main", "\x00"} {
			if b, e := d.Read(name); len(b) != 0 || e != api.ErrNone {
				t.Errorf("Read of %q: %q, error %d", name, b, e)
			}
		}
		if e := d.Append("a", make([]byte, room+1)); e != api.ErrFull {
			t.Errorf("%d bytes in a room of %d: error %d", room+1, room, e)
		}
		must(t, d, putting("a", repeated("x", room)))
		checkFiles(t, "the room is full", d, room, files("a", repeated("x", room))...)
	}
}

// P18.1: a room of nothing, and one below 0, which is none; and one that can't be filled.
func TestNewBounds(t *testing.T) {
	for _, room := range []int{0, -1, -2, -100, -1 << 32, math.MinInt} {
		d := disk.New(room)
		if d == nil || d.Off() || d.Room() != 0 || len(d.Names()) != 0 {
			t.Fatalf("New of %d: off %v, room %d, %q", room, d.Off(), d.Room(), d.Names())
		}
		if e := d.Append("a", []byte("x")); e != api.ErrFull {
			t.Errorf("a byte in a room of %d: error %d", room, e)
		}
		checkFiles(t, "no room", d, 0)
		must(t, d, putting("a", ""), syncing("a"), renaming("a", "b"))
		checkFiles(t, "no room", d, 0, files("b", "")...)
	}
	for _, room := range []int{math.MaxInt, math.MaxInt - 1, 1 << 40} {
		d := after(t, room, putting("a", "xyz"), putting("b", "z"))
		checkFiles(t, "much room", d, room, files("a", "xyz", "b", "z")...)
	}
}

// P18.1: nothing of one disk is another one's.
func TestNewApart(t *testing.T) {
	one, two := disk.New(100), disk.New(100)
	must(t, one, putting("a", "x"))
	cut(t, one, 0, 0, 0)
	must(t, two, putting("b", "yy"))
	one.Sync("a")
	if !one.Off() || two.Off() {
		t.Errorf("off are %v, %v", one.Off(), two.Off())
	}
	checkFiles(t, "the other one", two, 100, files("b", "yy")...)
	one.On()
	checkFiles(t, "the one", one, 100, files("a", "")...)
}

// P18.1: as long as no Cut tells so, the power stays on.
func TestNewStaysOn(t *testing.T) {
	d := disk.New(100)
	for i := range 5000 {
		must(t, d, putting("a", "x"), syncing("a"), renaming("a", "b"), shortening("b", 0), removing("b"))
		if d.Off() {
			t.Fatalf("the power is off behind %d rounds", i)
		}
	}
}

// P18.3: what is read are a file's bytes, whatever they are, sure or not.
func TestRead(t *testing.T) {
	all := make([]byte, 256)
	for i := range all {
		all[i] = byte(i)
	}
	d := after(t, 1000, putting("a", string(all)), syncing("a"), putting("a", "tail"), putting("b", ""), putting("c", "\x00"))
	checkFiles(t, "what is read", d, 1000, files("a", string(all)+"tail", "b", "", "c", "\x00")...)
	for _, name := range []string{"", "A", "aa", "a ", " a", "d", "a\x00", "á", "\xff", repeated("a", 33), repeated("a", 1000)} {
		if b, e := d.Read(name); len(b) != 0 || e != api.ErrNone {
			t.Errorf("Read of %q: %q, error %d", name, b, e)
		}
	}
}

// P18.3: whoever changes what Read answers changes nothing else, and what it answers doesn't change.
func TestReadIsNew(t *testing.T) {
	d := after(t, 1000, putting("a", "abcdef"), syncing("a"), putting("a", "gh"))
	first, _ := d.Read("a")
	second, _ := d.Read("a")
	clear(first[:cap(first)])
	_ = append(first[:2], "spoilt"...)
	checkFiles(t, "an answer was changed", d, 1000, files("a", "abcdefgh")...)
	if string(second) != "abcdefgh" {
		t.Errorf("another answer was changed: %q", second)
	}
	must(t, d, shortening("a", 3), putting("a", "XYZ"), syncing("a"))
	if string(second) != "abcdefgh" {
		t.Errorf("an answer changes with the file: %q", second)
	}
	third, _ := d.Read("a")
	must(t, d, removing("a"), putting("a", "123456"))
	if string(third) != "abcXYZ" {
		t.Errorf("an answer changes with the file: %q", third)
	}
	_ = append(third, "more"...)
	must(t, d, putting("a", "7"))
	_ = append(third, "more"...)
	checkFiles(t, "behind an answer was written", d, 1000, files("a", "1234567")...)
}

// P18.3: the names in order as texts are, whatever the order in which the files were made.
func TestNames(t *testing.T) {
	want := []string{"-", "-a", ".", "..", ".new", "0", "00", "10", "9", "A", "Z", "Z.", "a", "a-", "a.", "a0", "aA", "aa", "b", "log-10", "log-9", "snap", "snap.new", "z"}
	if !slices.IsSorted(want) {
		t.Fatal("the names aren't in order")
	}
	r := rand.New(rand.NewPCG(18, 3))
	for range 50 {
		d := disk.New(0)
		var made []string
		for _, i := range r.Perm(len(want)) {
			must(t, d, putting(want[i], ""))
			made = append(made, want[i])
			slices.Sort(made)
			if got := d.Names(); !slices.Equal(got, made) {
				t.Fatalf("the names are %q, not %q", got, made)
			}
		}
	}
}

// P18.3: whoever changes what Names answers changes nothing else, and what it answers doesn't change.
func TestNamesAreNew(t *testing.T) {
	d := after(t, 100, putting("c", "1"), putting("a", "2"), putting("b", "3"))
	first, second := d.Names(), d.Names()
	_ = append(first[:1], "spoilt", "spoilt")
	clear(first[:cap(first)])
	checkFiles(t, "an answer was changed", d, 100, files("a", "2", "b", "3", "c", "1")...)
	must(t, d, renaming("a", "z"), removing("b"), putting("0", ""))
	if !slices.Equal(second, []string{"a", "b", "c"}) {
		t.Errorf("an answer changes with the files: %q", second)
	}
}

// P18.3: Room is the room less all files' bytes, sure or not.
func TestRoom(t *testing.T) {
	d := disk.New(20)
	for _, x := range []struct {
		s    step
		room int
	}{
		{putting("a", "abcde"), 15},
		{syncing("a"), 15},
		{putting("a", "fg"), 13},
		{putting("b", ""), 13},
		{putting("b", "xyz"), 10},
		{putting("c", "0123456789"), 0},
		{shortening("c", 4), 6},
		{shortening("c", 9), 6},
		{renaming("c", "d"), 6},
		{renaming("d", "d"), 6},
		{renaming("b", "a"), 13},
		{syncing("a"), 13},
		{shortening("a", 0), 16},
		{removing("a"), 16},
		{removing("d"), 20},
	} {
		must(t, d, x.s)
		if got := d.Room(); got != x.room {
			t.Errorf("behind %s there is room for %d, not for %d", x.s.what, got, x.room)
		}
	}
}

// Rule 1: a disk that is just declared is one without room.
func TestDeclared(t *testing.T) {
	var d disk.Disk
	if d.Off() || d.Room() != 0 || len(d.Names()) != 0 {
		t.Errorf("off %v, room %d, %q", d.Off(), d.Room(), d.Names())
	}
	if b, e := d.Read("a"); len(b) != 0 || e != api.ErrNone {
		t.Errorf("Read: %q, error %d", b, e)
	}
	for _, s := range []step{syncing("a"), renaming("a", "b"), removing("a"), shortening("a", 0)} {
		if e := s.call(&d); e != api.ErrNone {
			t.Errorf("%s: error %d", s.what, e)
		}
	}
	if e := d.Append("a", []byte("x")); e != api.ErrFull {
		t.Errorf("Append: error %d", e)
	}
	cut(t, &d, 1, 0, 0)
	must(t, &d, putting("a", ""))
	if e := d.Append("b", nil); e != api.ErrPower {
		t.Errorf("Append: error %d", e)
	}
	d.On()
	checkFiles(t, "declared", &d, 0, files("a", "", "b", "")...)
}
