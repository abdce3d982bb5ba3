package disk_test

import (
	"math"
	"slices"
	"strconv"
	"testing"

	"osier/api"
	"osier/disk"
)

// standing are the bytes that may stand in a name.
const standing = "-.0123456789ABCDEFGHIJKLMNOPQRSTUVWXYZabcdefghijklmnopqrstuvwxyz"

// notNames are texts that are no names.
func notNames() []string {
	return []string{
		"", " ", "a b", "a ", " a", "a_b", "a/b", "/", "a\n", "\x00", "a\x00", "\xff", "é", "aé", "ａ", "٣", "a,b", "a:b", "~", "*",
		repeated("a", 33), repeated("-", 33), repeated(".", 34), repeated("0", 64), repeated("a", 256), repeated("z", 1<<16), repeated("\x00", 5),
	}
}

// P18.2: what is appended is at the end of the file's tail; a file that isn't there is made.
func TestAppend(t *testing.T) {
	checkDone(t, 100, nil, putting("a", "xyz"), files("a", "xyz"), files("a", ""))
	checkDone(t, 100, []step{putting("a", "xyz")}, putting("a", "12"), files("a", "xyz12"), files("a", ""))
	checkDone(t, 100, []step{putting("a", "xyz"), syncing("a")}, putting("a", "12"), files("a", "xyz12"), files("a", "xyz"))
	checkDone(t, 100, []step{putting("b", "xyz"), syncing("b")}, putting("a", "12"), files("a", "12", "b", "xyz"), files("a", "", "b", "xyz"))
	checkDone(t, 100, three(), putting("a", "ef"), files("a", "abcdef", "b", "xyz", "c", "pq"), files("a", "ab", "b", "xyz", "c", ""))
	checkDone(t, 100, three(), putting("d", "ef"), files("a", "abcd", "b", "xyz", "c", "pq", "d", "ef"), files("a", "ab", "b", "xyz", "c", "", "d", ""))
	checkDone(t, 100, []step{putting("a", "ab"), syncing("a"), removing("a")}, putting("a", "c"), files("a", "c"), files("a", ""))
	checkDone(t, 100, []step{putting("a", "abc"), syncing("a"), shortening("a", 1)}, putting("a", "XYZ"), files("a", "aXYZ"), files("a", "a"))
}

// P18.2: no bytes: the file is as it was, and is made, if there is none.
func TestAppendNothing(t *testing.T) {
	for _, b := range [][]byte{nil, {}} {
		s := step{"Append of nothing", func(d *disk.Disk) api.Errno { return d.Append("a", b) }}
		checkDone(t, 100, nil, s, files("a", ""), files("a", ""))
		checkDone(t, 0, nil, s, files("a", ""), files("a", ""))
		checkDone(t, 100, three(), s, files("a", "abcd", "b", "xyz", "c", "pq"), files("a", "ab", "b", "xyz", "c", ""))
		checkDone(t, 9, three(), s, files("a", "abcd", "b", "xyz", "c", "pq"), files("a", "ab", "b", "xyz", "c", ""))
	}
}

// P18.2: names of 1 to 32 bytes; none of no byte, nor of 33 and more.
func TestAppendNameLength(t *testing.T) {
	for n := range 300 {
		for _, c := range []string{"a", "z", "A", "Z", "0", "9", "-", "."} {
			name := repeated(c, n)
			if n >= 1 && n <= 32 {
				checkDone(t, 100, nil, putting(name, "x"), files(name, "x"), files(name, ""))
			} else {
				checkRefused(t, 100, three(), putting(name, "x"), api.ErrName)
			}
		}
	}
}

// P18.2: each byte that may stand in a name, and each that may not, alone, ahead, in the middle and at the end, in a short one and in the longest.
func TestAppendNameBytes(t *testing.T) {
	for n := range 256 {
		for _, around := range [][2]string{{"", ""}, {"", "a"}, {"a", ""}, {"a", "a"}, {repeated("z", 31), ""}, {"", repeated("Z", 31)}, {repeated("-", 16), repeated(".", 15)}} {
			name := around[0] + string([]byte{byte(n)}) + around[1]
			want := api.ErrName
			if slices.Contains([]byte(standing), byte(n)) {
				want = api.OK
			}
			d := disk.New(100)
			if e := d.Append(name, []byte("x")); e != want || len(d.Names()) == 1 != (want == api.OK) {
				t.Errorf("Append of %q: error %d, not %d, and there is %q", name, e, want, d.Names())
			}
		}
	}
	for _, name := range notNames() {
		checkRefused(t, 100, three(), putting(name, "x"), api.ErrName)
		checkRefused(t, 100, three(), putting(name, ""), api.ErrName)
	}
}

// P18.2: at the room's end: as much as there is room for, over all files, sure or not.
func TestAppendFull(t *testing.T) {
	for _, name := range []string{"a", "b", "c", "d"} {
		d := after(t, 12, append(three(), putting(name, "123"))...)
		if d.Room() != 0 {
			t.Errorf("there is room for %d", d.Room())
		}
		for _, more := range []string{"1234", "12345", repeated("x", 12), repeated("x", 13), repeated("x", 1000)} {
			checkRefused(t, 12, three(), putting(name, more), api.ErrFull)
		}
		checkRefused(t, 9, three(), putting(name, "1"), api.ErrFull)
	}
	checkRefused(t, 0, nil, putting("a", "1"), api.ErrFull)
	checkRefused(t, 10, nil, putting("a", "12345678901"), api.ErrFull)
}

// P18.2: there is room again for what is gone.
func TestAppendRoomAgain(t *testing.T) {
	for _, s := range []step{removing("b"), shortening("b", 0), renaming("c", "b"), renaming("a", "b")} {
		d := after(t, 9, append(three(), s)...)
		if e := d.Append("e", make([]byte, 4)); e != api.ErrFull {
			t.Errorf("%s, 4 bytes: error %d", s.what, e)
		}
		must(t, d, putting("e", "123"))
		if e := d.Append("e", make([]byte, 1)); e != api.ErrFull {
			t.Errorf("%s, a byte beyond: error %d", s.what, e)
		}
	}
	d := after(t, 4, putting("a", "1234"))
	cut(t, d, 0, 0, 1)
	d.Sync("a")
	d.On()
	if e := d.Append("b", []byte("5678")); e != api.ErrFull {
		t.Errorf("4 bytes: error %d", e)
	}
	must(t, d, putting("b", "567"))
	checkFiles(t, "what was torn leaves room", d, 4, files("a", "1", "b", "567")...)
}

// hundred are steps for MaxFiles files, f0 to f99, of a byte each.
func hundred() []step {
	var out []step
	for i := range api.MaxFiles {
		out = append(out, putting("f"+strconv.Itoa(i), "x"))
	}
	return out
}

// P18.2: there are MaxFiles files at most; one that is there grows on.
func TestAppendFiles(t *testing.T) {
	d := disk.New(1000)
	for i, s := range hundred() {
		must(t, d, s)
		if len(d.Names()) != i+1 {
			t.Fatalf("there are %d files behind %s", len(d.Names()), s.what)
		}
	}
	for _, name := range []string{"a", "f100", "f", "F0", "z"} {
		checkRefused(t, 1000, hundred(), putting(name, "x"), api.ErrFull)
		checkRefused(t, 1000, hundred(), putting(name, ""), api.ErrFull)
		checkRefused(t, api.MaxFiles, hundred(), putting(name, ""), api.ErrFull)
	}
	must(t, d, putting("f0", "yz"), putting("f99", "yz"), putting("f50", ""))
	if b, e := d.Read("f99"); string(b) != "xyz" || e != api.OK {
		t.Errorf("f99 is %q, error %d", b, e)
	}
	checkRefused(t, 105, hundred(), putting("f7", "123456"), api.ErrFull)
	checkRefused(t, 105, hundred(), putting("a", "12345"), api.ErrFull)
}

// P18.2: there may be one more file again where one is gone, and none where one has another name.
func TestAppendFilesAgain(t *testing.T) {
	for _, s := range []step{removing("f7"), renaming("f7", "f8")} {
		d := after(t, 1000, append(hundred(), s, putting("a", "x"))...)
		if e := d.Append("b", nil); e != api.ErrFull {
			t.Errorf("%s: one file more: error %d", s.what, e)
		}
	}
	for _, s := range []step{renaming("f7", "f7"), renaming("f7", "g"), shortening("f7", 0), syncing("f7")} {
		checkRefused(t, 1000, append(hundred(), s), putting("a", "x"), api.ErrFull)
	}
	must(t, after(t, 1000, append(hundred(), renaming("f7", "a"))...), putting("a", "x"))
	checkRefused(t, 1000, append(hundred(), renaming("f7", "a")), putting("f7", "x"), api.ErrFull)
}

// P18.2: that a name is none is told ahead of that there is no room.
func TestAppendErrorOrder(t *testing.T) {
	for _, name := range notNames() {
		checkRefused(t, 9, three(), putting(name, "x"), api.ErrName)
		checkRefused(t, 0, nil, putting(name, "x"), api.ErrName)
		checkRefused(t, 1000, hundred(), putting(name, ""), api.ErrName)
	}
}

// P18.3: what is handed to Append isn't kept, and isn't changed.
func TestAppendKeepsNothing(t *testing.T) {
	d := disk.New(1000)
	b := []byte("0123456789")
	for _, part := range [][]byte{b[2:4], b[:0], b[4:8]} {
		if e := d.Append("a", part); e != api.OK {
			t.Fatalf("Append: error %d", e)
		}
	}
	if e := d.Append("b", b[:3]); e != api.OK {
		t.Fatalf("Append: error %d", e)
	}
	must(t, d, putting("a", "more"), putting("b", "more"), syncing("a"), shortening("b", 4), putting("b", "!"))
	if string(b) != "0123456789" {
		t.Errorf("what was handed in was changed: %q", b)
	}
	clear(b)
	checkFiles(t, "what was handed in is changed", d, 1000, files("a", "234567more", "b", "012m!")...)
	read, _ := d.Read("a")
	if e := d.Append("b", read); e != api.OK {
		t.Fatalf("Append: error %d", e)
	}
	clear(read)
	checkFiles(t, "what was read is appended and changed", d, 1000, files("a", "234567more", "b", "012m!234567more")...)
}

// P18.2: a room that is next to the greatest number doesn't wrap round.
func TestAppendMuchRoom(t *testing.T) {
	for _, room := range []int{math.MaxInt, math.MaxInt - 1, math.MaxInt - 5} {
		checkDone(t, room, three(), putting("a", "efghij"), files("a", "abcdefghij", "b", "xyz", "c", "pq"), files("a", "ab", "b", "xyz", "c", ""))
	}
}
