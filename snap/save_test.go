package snap_test

import (
	"math"
	"slices"
	"strconv"
	"strings"
	"testing"

	"osier/api"
	"osier/disk"
	"osier/snap"
)

// names are names of files that are names with `.new`, too.
func names() []string {
	return []string{"a", "Z", "0", "-", ".", "..", "snap", "snap.new", ".new", "A.b-9", repeated("a", 27), repeated("a", 28), repeated(".", 28), repeated("Z", 28)}
}

// notNames are texts that are no names with `.new`.
func notNames() []string {
	return []string{
		" ", "a b", "a ", " a", "a_b", "snap/0", "/", "a\n", "\x00", "a\x00", "\xff", "é", "aé", "ａ", "٣", "a,b", "a:b", "~", "*",
		repeated("a", 29), repeated("a", 30), repeated("a", 32), repeated("a", 33), repeated("-", 29), repeated("a", 256), repeated("z", 1<<16),
	}
}

// bodies are bytes that are saved.
func bodies() []string {
	return []string{"", "a", "\x00", "\xff\xff", "some bytes", framedLike, repeated("x", 70000), "\x01\x04main\x00\x00"}
}

// framedLike are bytes that are a frame themselves: that of none.
const framedLike = "\x00\x00\x00\x00\xc7\x4b\x67\x48"

// gens are numbers that are saved.
func gens() []int {
	return []int{0, 1, 2, 63, 64, 65, 8191, 8192, 1 << 20, 1 << 40, 1 << 55, 1 << 62, math.MaxInt - 1, math.MaxInt}
}

// P20.3: the file is the frame of the number and the bytes, and all of it is sure; the fresh one is gone, and no other one is changed.
func TestSave(t *testing.T) {
	for _, name := range names() {
		for i, b := range bodies() {
			gen := gens()[i]
			d := holding(t, "other", "xyz")
			if n := operations(t, d, func() { must(t, "Save", save(d, name, gen, b)) }); n != 3 {
				t.Errorf("Save did %d operations", n)
			}
			checkFiles(t, "saved", d, "other", "xyz", name, saved(t, gen, b))
			checkSure(t, "saved", d, name, saved(t, gen, b))
		}
	}
}

// P20.3: by hand: the length, the number, the bytes and the sum.
func TestSaveByHand(t *testing.T) {
	d := disk.New(plenty)
	must(t, "Save", save(d, "s", 64, "ab"))
	b := read(t, d, "s")
	if len(b) != 12 || b[:8] != "\x04\x00\x00\x00\x80\x80ab" || b != framed(t, "\x80\x80ab") {
		t.Errorf("the file is %q", b)
	}
}

// P20.3: each number that isn't below 0, in its bytes; one below 0 is none, and nothing is changed.
func TestSaveNumbers(t *testing.T) {
	d := disk.New(plenty)
	for _, gen := range gens() {
		must(t, "Save", save(d, "s", gen, "b"))
		checkFiles(t, "saved", d, "s", saved(t, gen, "b"))
	}
	for _, gen := range []int{-1, -2, -64, -65, math.MinInt, math.MinInt + 1} {
		d := holding(t, "s", "old")
		checkRefused(t, d, "s", gen, nil, api.ErrArg, "s", "old")
	}
}

// checkRefused looks that a Save is refused ahead of all operations, and that the disk has just these files: names and bytes by turns.
func checkRefused(t *testing.T, d *disk.Disk, name string, gen int, b []byte, want api.Errno, l ...string) {
	t.Helper()
	n := operations(t, d, func() {
		if e := snap.Save(d, name, gen, b); e != want {
			t.Errorf("Save %d of %d bytes as %q: error %d, not %d", gen, len(b), name, e, want)
		}
	})
	if n != 0 {
		t.Errorf("Save %d of %d bytes as %q did %d operations", gen, len(b), name, n)
	}
	checkFiles(t, "refused", d, l...)
}

// P20.3: a disk that is nil, ahead of all that is wrong else.
func TestSaveNil(t *testing.T) {
	for _, name := range slices.Concat(names(), notNames()) {
		for _, gen := range []int{-1, 0, 1} {
			for _, n := range []int{0, 1, api.MaxBody + 1} {
				if e := snap.Save(nil, name, gen, make([]byte, n)); e != api.ErrArg {
					t.Fatalf("Save: error %d", e)
				}
			}
		}
	}
}

// P20.3: names that with `.new` are none: no operation is done.
func TestSaveNoName(t *testing.T) {
	for _, name := range notNames() {
		checkRefused(t, holding(t, "s", "old"), name, 1, []byte("b"), api.ErrName, "s", "old")
	}
}

// P20.3: each byte that may stand in a name, and each that may not, and each length.
func TestSaveNameBytes(t *testing.T) {
	const standing = "-.0123456789ABCDEFGHIJKLMNOPQRSTUVWXYZabcdefghijklmnopqrstuvwxyz"
	for n := range 256 {
		for _, around := range [][2]string{{"", ""}, {"", "a"}, {"a", ""}, {"a", "a"}, {repeated("z", 27), ""}, {"", repeated("Z", 27)}} {
			name := around[0] + string([]byte{byte(n)}) + around[1]
			want := api.ErrName
			if slices.Contains([]byte(standing), byte(n)) {
				want = api.OK
			}
			if e := save(disk.New(100), name, 1, "b"); e != want {
				t.Errorf("Save as %q: error %d, not %d", name, e, want)
			}
		}
	}
	for n := 1; n < 100; n++ {
		if e, want := save(disk.New(100), repeated("a", n), 1, "b"), n <= 28; (e == api.OK) != want || e != api.OK && e != api.ErrName {
			t.Errorf("Save as %d bytes: error %d", n, e)
		}
	}
}

// P20.3: no name at all: with `.new` it is one, so that the disk tells by its Rename that there is no such name.
func TestSaveEmptyName(t *testing.T) {
	d := disk.New(plenty)
	n := operations(t, d, func() {
		if e := save(d, "", 1, "b"); e != api.ErrName {
			t.Errorf("Save: error %d", e)
		}
	})
	if n != 3 {
		t.Errorf("Save did %d operations", n)
	}
	checkFiles(t, "no name", d, ".new", saved(t, 1, "b"))
}

// P20.3: just as many bytes as a frame takes, those of the number among them, and more.
func TestSaveTooLong(t *testing.T) {
	for _, c := range []struct{ gen, size int }{{0, 1}, {63, 1}, {64, 2}, {8191, 2}, {8192, 3}, {1 << 40, 6}, {math.MaxInt, 9}} {
		d := disk.New(1 << 24)
		must(t, "old", save(d, "s", 5, "old"))
		for _, more := range []int{1, 2, 100} {
			checkRefused(t, d, "s", c.gen, make([]byte, api.MaxBody-c.size+more), api.ErrLimit, "s", saved(t, 5, "old"))
		}
		checkRefused(t, d, "s", c.gen, make([]byte, api.MaxBody), api.ErrLimit, "s", saved(t, 5, "old"))
		most := repeated("x", api.MaxBody-c.size)
		must(t, "just as many", save(d, "s", c.gen, most))
		checkLoaded(t, "just as many", d, "s", c.gen, most)
	}
}

// P20.3: while the power is off.
func TestSaveOff(t *testing.T) {
	for _, elder := range []bool{false, true} {
		d := holding(t, "s", "old")
		l := []string{"s", "old"}
		if elder {
			must(t, "elder", d.Append("s.new", []byte("elder")), d.Sync("s.new"))
			l = append(l, "s.new", "elder")
		}
		cut(t, d, 0, 0, 0)
		d.Remove("")
		for range 3 {
			if e := save(d, "s", 1, "b"); e != api.ErrPower {
				t.Errorf("Save: error %d", e)
			}
		}
		if !d.Off() {
			t.Error("the power is on")
		}
		d.On()
		checkFiles(t, "off", d, l...)
		must(t, "on", save(d, "s", 1, "b"))
		checkFiles(t, "on", d, "s", saved(t, 1, "b"))
	}
}

// P20.3: of several errors the first one is told.
func TestSaveErrorOrder(t *testing.T) {
	long := make([]byte, api.MaxBody+1)
	for _, off := range []bool{false, true} {
		for _, c := range []struct {
			name string
			gen  int
			b    []byte
			want api.Errno
		}{
			{"s", -1, nil, api.ErrArg}, {"a b", -1, nil, api.ErrArg}, {"s", -1, long, api.ErrArg}, {"a b", -1, long, api.ErrArg},
			{"a b", 1, nil, api.ErrName}, {"a b", 1, long, api.ErrName}, {repeated("a", 29), 0, long, api.ErrName},
			{"s", 1, long, api.ErrLimit}, {"", 1, long, api.ErrLimit},
		} {
			d := holding(t, "s", "old")
			if off {
				cut(t, d, 0, 0, 0)
				d.Remove("")
			}
			if e := snap.Save(d, c.name, c.gen, c.b); e != c.want || d.Off() != off {
				t.Errorf("Save %d of %d bytes as %q, off %v: error %d, not %d", c.gen, len(c.b), c.name, off, e, c.want)
			}
			d.On()
			checkFiles(t, "refused", d, "s", "old")
		}
	}
}

// P20.3: an elder file `.new` is gone, whatever it has, with one operation more; also where it isn't sure.
func TestSaveElder(t *testing.T) {
	for _, elder := range []string{"", "x", "torn", saved(t, 7, "elder"), repeated("x", 5000)} {
		for _, sync := range []bool{false, true} {
			d := holding(t, "s", "old")
			must(t, "elder", d.Append("s.new", []byte(elder)), d.Append("t.new", []byte(elder)))
			if sync {
				must(t, "sure", d.Sync("s.new"))
			}
			if n := operations(t, d, func() { must(t, "Save", save(d, "s", 1, "b")) }); n != 4 {
				t.Errorf("Save did %d operations", n)
			}
			checkFiles(t, "elder", d, "s", saved(t, 1, "b"), "t.new", elder)
			checkSure(t, "elder", d, "s", saved(t, 1, "b"))
		}
	}
}

// P20.3: a Save replaces what was saved, shorter or longer; each name has its own.
func TestSaveAgain(t *testing.T) {
	d := disk.New(plenty)
	want := map[string]string{}
	for i, b := range slices.Concat(bodies(), bodies()) {
		for _, name := range []string{"s", "t", "s.", "new"} {
			if (i+len(name))%3 == 0 {
				continue
			}
			must(t, "Save", save(d, name, i, b))
			want[name] = saved(t, i, b)
			for n, file := range want {
				if read(t, d, n) != file {
					t.Fatalf("%q is another one", n)
				}
			}
			if len(d.Names()) != len(want) {
				t.Fatalf("there is %q", d.Names())
			}
		}
	}
}

// P20.3: a file saved by the name `s.new` is an elder one for a Save as `s`.
func TestSaveNewAsName(t *testing.T) {
	d := disk.New(plenty)
	must(t, "both", save(d, "s.new", 1, "a"))
	checkFiles(t, "s.new", d, "s.new", saved(t, 1, "a"))
	must(t, "both", save(d, "s.new", 2, "b"))
	checkFiles(t, "s.new", d, "s.new", saved(t, 2, "b"))
	must(t, "both", save(d, "s", 3, "c"))
	checkFiles(t, "s", d, "s", saved(t, 3, "c"))
}

// P20.3: no room: what was there stays, but for an elder file.
func TestSaveFull(t *testing.T) {
	old, fresh := saved(t, 1, "old"), saved(t, 2, "fresh one")
	for room := range len(old) + len(fresh) + 2 {
		if room < len(old) {
			continue
		}
		for _, elder := range []string{"", "x", "some bytes"} {
			if len(old)+len(elder) > room {
				continue
			}
			d := disk.New(room)
			must(t, "old", save(d, "s", 1, "old"))
			if elder != "" {
				must(t, "elder", d.Append("s.new", []byte(elder)))
			}
			want := api.ErrFull
			if room >= len(old)+len(fresh) {
				want = api.OK
			}
			if e := save(d, "s", 2, "fresh one"); e != want {
				t.Errorf("Save with room for %d: error %d, not %d", room, e, want)
			}
			if want == api.OK {
				checkFiles(t, "room", d, "s", fresh)
			} else {
				checkFiles(t, "no room", d, "s", old)
			}
		}
	}
}

// P20.3: as many files as there may be: none is added, but one can take an elder one's place.
func TestSaveManyFiles(t *testing.T) {
	d := disk.New(plenty)
	must(t, "s", save(d, "s", 1, "a"))
	for i := range api.MaxFiles - 1 {
		must(t, "files", d.Append("f"+strconv.Itoa(i), nil))
	}
	if e := save(d, "s", 2, "b"); e != api.ErrFull {
		t.Errorf("Save: error %d", e)
	}
	checkLoaded(t, "many files", d, "s", 1, "a")
	must(t, "elder", d.Rename("f0", "s.new"), save(d, "s", 3, "c"))
	checkLoaded(t, "one fewer", d, "s", 3, "c")
	if len(d.Names()) != api.MaxFiles-1 {
		t.Errorf("there are %d files", len(d.Names()))
	}
}

// P20.3: the power that goes off within each operation ends it, and ErrPower is told: what was done ahead is done, nothing behind it.
func TestSaveCut(t *testing.T) {
	old, fresh := "old", saved(t, 1, "b")
	for _, c := range []struct {
		what      string
		elder     bool
		ops, part int
		want      []string
	}{
		{"Remove isn't done", true, 0, 0, []string{"s", old, "s.new", "elder"}},
		{"Remove is done", true, 0, 1, []string{"s", old}},
		{"nothing is appended, elder", true, 1, 0, []string{"s", old, "s.new", ""}},
		{"nothing is appended", false, 0, 0, []string{"s", old, "s.new", ""}},
		{"some is appended", false, 0, 3, []string{"s", old, "s.new", fresh[:3]}},
		{"all is appended", false, 0, plenty, []string{"s", old, "s.new", fresh}},
		{"all is appended, elder", true, 1, plenty, []string{"s", old, "s.new", fresh}},
		{"Sync isn't done", false, 1, plenty, []string{"s", old, "s.new", fresh}},
		{"Sync isn't done, elder", true, 2, 0, []string{"s", old, "s.new", fresh}},
		{"Rename isn't done", false, 2, 0, []string{"s", old, "s.new", fresh}},
		{"Rename isn't done, elder", true, 3, 0, []string{"s", old, "s.new", fresh}},
		{"Rename is done", false, 2, 1, []string{"s", fresh}},
		{"Rename is done, elder", true, 3, 1, []string{"s", fresh}},
	} {
		d := holding(t, "s", old)
		if c.elder {
			must(t, "elder", d.Append("s.new", []byte("elder")))
		}
		cut(t, d, c.ops, c.part, plenty)
		if e := save(d, "s", 1, "b"); e != api.ErrPower || !d.Off() {
			t.Errorf("%s: error %d", c.what, e)
		}
		d.On()
		checkFiles(t, c.what, d, c.want...)
		must(t, "again", save(d, "s", 1, "b"))
		checkFiles(t, c.what+": again", d, "s", fresh)
	}
}

// P20.3: a Cut that is further on isn't used up by more operations than a Save is told to do.
func TestSaveLeavesCut(t *testing.T) {
	for _, elder := range []bool{false, true} {
		d, n := holding(t, "s", "old"), 3
		if elder {
			must(t, "elder", d.Append("s.new", nil))
			n = 4
		}
		cut(t, d, n, 0, plenty)
		must(t, "Save", save(d, "s", 1, "b"))
		if e := d.Sync("s"); e != api.ErrPower {
			t.Errorf("behind the Save: error %d", e)
		}
	}
}

// P20.3: what is handed in isn't changed, and isn't kept.
func TestSaveKeepsNothing(t *testing.T) {
	d := disk.New(plenty)
	b := []byte("0123456789")
	must(t, "Save", snap.Save(d, "s", 1, b[2:5]), snap.Save(d, "t", 1, b[:0]), snap.Save(d, "u", 1, b))
	if string(b) != "0123456789" {
		t.Errorf("what was handed in was changed: %q", b)
	}
	clear(b)
	for name, want := range map[string]string{"s": "234", "t": "", "u": "0123456789"} {
		checkLoaded(t, "kept", d, strings.Clone(name), 1, want)
	}
}

// P20.3: a disk that is just declared has no room.
func TestSaveDeclared(t *testing.T) {
	var d disk.Disk
	if e := save(&d, "s", 1, "b"); e != api.ErrFull || len(d.Names()) != 0 {
		t.Errorf("Save: error %d", e)
	}
}
