package snap_test

import (
	"bytes"
	"math"
	"slices"
	"testing"

	"osier/api"
	"osier/disk"
	"osier/snap"
)

// P20.4: a disk that is nil.
func TestLoadNil(t *testing.T) {
	for _, name := range append(append(names(), notNames()...), "") {
		checkUnloaded(t, "nil", nil, name, api.ErrArg)
	}
}

// P20.4: no such file; also where the name is none.
func TestLoadNone(t *testing.T) {
	d := holding(t, "s", saved(t, 1, "a"))
	must(t, "s.new", d.Append("t.new", []byte(saved(t, 2, "b"))))
	for _, name := range append(append(names(), notNames()...), "", "S", "t", "new") {
		checkUnloaded(t, "none", disk.New(0), name, api.ErrNone)
		checkUnloaded(t, "none", new(disk.Disk), name, api.ErrNone)
		if name != "s" {
			checkUnloaded(t, "none", d, name, api.ErrNone)
		}
	}
}

// P20.4: while the power is off: of files that are there, and of such as are not.
func TestLoadOff(t *testing.T) {
	d := holding(t, "s", saved(t, 1, "a"))
	must(t, "bad", d.Append("bad", []byte("x")), d.Sync("bad"))
	cut(t, d, 0, 0, 0)
	d.Remove("")
	for _, name := range []string{"s", "bad", "none", "", "a b"} {
		checkUnloaded(t, "off", d, name, api.ErrPower)
	}
	d.On()
	checkLoaded(t, "on", d, "s", 1, "a")
	checkUnloaded(t, "on", d, "bad", api.ErrShort)
	checkUnloaded(t, "on", d, "none", api.ErrNone)
}

// P20.4: the number and the bytes, of files that weren't saved by Save, too; nothing is changed, and no operation is done.
func TestLoad(t *testing.T) {
	for _, gen := range gens() {
		for _, b := range bodies() {
			d := holding(t, "s", saved(t, gen, b))
			if n := operations(t, d, func() { checkLoaded(t, "loaded", d, "s", gen, b) }); n != 0 {
				t.Errorf("Load did %d operations", n)
			}
			checkLoaded(t, "again", d, "s", gen, b)
			if got := read(t, d, "s"); got != saved(t, gen, b) {
				t.Errorf("Load changed the file to %q", got)
			}
		}
	}
	// Of a name with which none can be saved.
	long := repeated("a", 32)
	checkLoaded(t, "a long name", holding(t, long, saved(t, 1, "a")), long, 1, "a")
}

// P20.4: the bytes of the tail are read, too.
func TestLoadTail(t *testing.T) {
	d := disk.New(plenty)
	must(t, "tail", d.Append("s", []byte(saved(t, 4, "tail"))))
	checkLoaded(t, "tail", d, "s", 4, "tail")
}

// P20.4: a frame that is cut off at every place, and of a file without bytes.
func TestLoadShort(t *testing.T) {
	for _, b := range []string{"", "a", "some bytes"} {
		whole := saved(t, 70, b)
		for n := range len(whole) {
			checkUnloaded(t, "short", holding(t, "s", whole[:n]), "s", api.ErrShort)
		}
	}
}

// P20.4: a frame each byte of which is another one: frame.Next's errors.
func TestLoadTurned(t *testing.T) {
	whole := saved(t, 70, "some bytes")
	for i := 4; i < len(whole); i++ {
		for _, bit := range []byte{1, 2, 128} {
			b := []byte(whole)
			b[i] ^= bit
			checkUnloaded(t, "turned", holding(t, "s", string(b)), "s", api.ErrSum)
		}
	}
	for length, want := range map[string]api.Errno{"\x0b\x00\x00\x00": api.ErrSum, "\x00\x00\x00\x00": api.ErrSum, "\x0d\x00\x00\x00": api.ErrShort, "\x0c\x01\x00\x00": api.ErrShort, "\x00\x00\x40\x00": api.ErrShort, "\x0c\x00\x40\x00": api.ErrForm, "\x0c\x00\x00\x01": api.ErrForm} {
		checkUnloaded(t, "another length", holding(t, "s", length+whole[4:]), "s", want)
	}
	checkUnloaded(t, "zeros", holding(t, "s", repeated("\x00", 20)), "s", api.ErrSum)
	checkUnloaded(t, "too long", holding(t, "s", "\x01\x00\x40\x00"+repeated("x", 100)), "s", api.ErrForm)
	checkUnloaded(t, "no frame", holding(t, "s", "no frame at all"), "s", api.ErrForm)
}

// P20.4: bytes behind the frame, one or more, also where they are a frame themselves, or where the number is none, which is told behind it.
func TestLoadBehind(t *testing.T) {
	for _, behind := range []string{"\x00", "x", "some bytes", saved(t, 1, "a"), framed(t, "")} {
		for _, body := range []string{"\x02a", "\x02", "", "\xc0", "\x80\x05", "\x01", "\xff"} {
			checkUnloaded(t, "behind", holding(t, "s", framed(t, body)+behind), "s", api.ErrForm)
		}
	}
	// What is wrong with the frame goes ahead of what lies behind it.
	whole := []byte(saved(t, 1, "a"))
	whole[5] ^= 1
	checkUnloaded(t, "behind a turned one", holding(t, "s", string(whole)+"x"), "s", api.ErrSum)
}

// P20.4: numbers that are none, that end too early, that are in more bytes than they need, and that are below 0.
func TestLoadNumbers(t *testing.T) {
	for body, want := range map[string]api.Errno{
		"":                                     api.ErrShort,
		"\x80":                                 api.ErrShort,
		"\xc0\x40":                             api.ErrShort,
		"\xff\xff\xff\xff\xff\xff\xff\xff":     api.ErrShort,
		"\xfe\x01\x02\x03\x04\x05\x06":         api.ErrShort,
		"\x80\x02":                             api.ErrForm,
		"\x80\x05some bytes":                   api.ErrForm,
		"\xff\x00\x00\x00\x00\x00\x00\x00\x02": api.ErrForm,
		"\xff\x00\x00\x00\x00\x00\x00\x00\x01": api.ErrForm,
		"\x01":                                 api.ErrForm,
		"\x01some bytes":                       api.ErrForm,
		"\x03":                                 api.ErrForm,
		"\x7f":                                 api.ErrForm,
		"\x80\x81":                             api.ErrForm,
		"\xff\xff\xff\xff\xff\xff\xff\xff\xff": api.ErrForm,
		"\xff\x80\x00\x00\x00\x00\x00\x00\x01rest": api.ErrForm,
	} {
		checkUnloaded(t, "a number", holding(t, "s", framed(t, body)), "s", want)
	}
	for _, gen := range []int{-1, -2, -64, -65, math.MinInt, math.MinInt + 1} {
		checkUnloaded(t, "below 0", holding(t, "s", saved(t, gen, "b")), "s", api.ErrForm)
	}
	checkLoaded(t, "the greatest one", holding(t, "s", framed(t, "\xff\xff\xff\xff\xff\xff\xff\xff\xfeb")), "s", math.MaxInt, "b")
	checkLoaded(t, "none behind", holding(t, "s", framed(t, "\x00")), "s", 0, "")
}

// P20.4: the bytes are new memory, which ends where they end.
func TestLoadIsNew(t *testing.T) {
	d := holding(t, "s", saved(t, 70, "some bytes"))
	for range 3 {
		_, b, e := snap.Load(d, "s")
		if e != api.OK || cap(b) != len(b) {
			t.Errorf("error %d, %d bytes in memory of %d", e, len(b), cap(b))
		}
		clear(b)
		_ = append(b[:0], "other bytes that are longer"...)
		checkLoaded(t, "changed", d, "s", 70, "some bytes")
	}
}

// P20.4: bytes of any kind are loaded just as frame and num read them.
func TestLoadByTheWords(t *testing.T) {
	for _, body := range []string{"", "\x00", "\x02abc", "\x80\x80x", "\x80\x02", "\x05", "\xff", "\xc0\x40\x00\x00"} {
		for _, file := range []string{framed(t, body), framed(t, body) + "x", framed(t, body)[1:], "x" + framed(t, body)} {
			d := holding(t, "s", file)
			n, b, e := snap.Load(d, "s")
			gen, want, f := slowLoad(d, "s")
			if n != gen || !bytes.Equal(b, want) || e != f {
				t.Errorf("Load of %q: %d, %q, error %d, not %d, %q, error %d", file, n, b, e, gen, want, f)
			}
		}
	}
}

// P20.2, P20.4: of what was put and saved is loaded what can be taken.
func TestLoadBranches(t *testing.T) {
	for i, f := range fixtures(t) {
		d := disk.New(plenty)
		must(t, f.what, snap.Save(d, "snap", i, snap.Put(f.b)))
		gen, b, e := snap.Load(d, "snap")
		if e != api.OK || gen != i || !slices.Equal(b, snap.Put(f.b)) {
			t.Fatalf("%s: Load: %d, error %d", f.what, gen, e)
		}
		checkTaken(t, f.what, 3, b, seenAt(3, f.b))
	}
}
