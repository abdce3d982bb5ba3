package disk_test

import (
	"math"
	"testing"

	"osier/api"
)

// absent are texts of which there is no file among three.
func absent() []string {
	return append(notNames(), "d", "A", "aa", "a.", "a-", "bc", repeated("a", 32))
}

// P18.2: Sync makes sure of all bytes of a file, and of no other file's.
func TestSync(t *testing.T) {
	all := files("a", "abcd", "b", "xyz", "c", "pq")
	checkDone(t, 100, three(), syncing("a"), all, files("a", "abcd", "b", "xyz", "c", ""))
	checkDone(t, 100, three(), syncing("b"), all, files("a", "ab", "b", "xyz", "c", ""))
	checkDone(t, 100, three(), syncing("c"), all, files("a", "ab", "b", "xyz", "c", "pq"))
	checkDone(t, 100, append(three(), syncing("c")), syncing("a"), all, all)
	checkDone(t, 9, append(three(), syncing("a")), syncing("a"), all, files("a", "abcd", "b", "xyz", "c", ""))
	checkDone(t, 100, []step{putting("e", "")}, syncing("e"), files("e", ""), files("e", ""))
	checkDone(t, 100, []step{putting("e", "x"), syncing("e")}, putting("e", "y"), files("e", "xy"), files("e", "x"))
}

// P18.2: Sync of a file that isn't there.
func TestSyncNone(t *testing.T) {
	for _, name := range absent() {
		checkRefused(t, 100, three(), syncing(name), api.ErrNone)
		checkRefused(t, 100, nil, syncing(name), api.ErrNone)
	}
	checkRefused(t, 100, append(three(), removing("a")), syncing("a"), api.ErrNone)
	checkRefused(t, 100, append(three(), renaming("a", "z")), syncing("a"), api.ErrNone)
}

// P18.2: a file has another name, as it is: its bytes, and what of them is sure.
func TestRename(t *testing.T) {
	checkDone(t, 100, three(), renaming("a", "d"), files("b", "xyz", "c", "pq", "d", "abcd"), files("b", "xyz", "c", "", "d", "ab"))
	checkDone(t, 100, three(), renaming("b", "0"), files("0", "xyz", "a", "abcd", "c", "pq"), files("0", "xyz", "a", "ab", "c", ""))
	checkDone(t, 9, three(), renaming("c", repeated(".", 32)), files(repeated(".", 32), "pq", "a", "abcd", "b", "xyz"), files(repeated(".", 32), "", "a", "ab", "b", "xyz"))
	checkDone(t, 100, append(three(), renaming("a", "d")), putting("d", "e"), files("b", "xyz", "c", "pq", "d", "abcde"), files("b", "xyz", "c", "", "d", "ab"))
	checkDone(t, 100, append(three(), renaming("a", "d")), putting("a", "e"), files("a", "e", "b", "xyz", "c", "pq", "d", "abcd"), files("a", "", "b", "xyz", "c", "", "d", "ab"))
	checkDone(t, 100, append(three(), renaming("a", "d")), syncing("d"), files("b", "xyz", "c", "pq", "d", "abcd"), files("b", "xyz", "c", "", "d", "abcd"))
	checkDone(t, 0, []step{putting("a", "")}, renaming("a", "b"), files("b", ""), files("b", ""))
}

// P18.2: one that had the name is gone, also what of it was sure.
func TestRenameOver(t *testing.T) {
	checkDone(t, 100, three(), renaming("a", "b"), files("b", "abcd", "c", "pq"), files("b", "ab", "c", ""))
	checkDone(t, 100, three(), renaming("b", "a"), files("a", "xyz", "c", "pq"), files("a", "xyz", "c", ""))
	checkDone(t, 100, three(), renaming("c", "b"), files("a", "abcd", "b", "pq"), files("a", "ab", "b", ""))
	checkDone(t, 100, append(three(), renaming("c", "b")), putting("b", "!"), files("a", "abcd", "b", "pq!"), files("a", "ab", "b", ""))
	checkRefused(t, 100, append(three(), renaming("c", "b")), syncing("c"), api.ErrNone)
}

// P18.2: a name may be given to a file that has it: nothing changes.
func TestRenameToItself(t *testing.T) {
	for _, name := range []string{"a", "b", "c"} {
		checkDone(t, 100, three(), renaming(name, name), files("a", "abcd", "b", "xyz", "c", "pq"), files("a", "ab", "b", "xyz", "c", ""))
	}
	checkDone(t, 1000, hundred()[:1], renaming("f0", "f0"), files("f0", "x"), files("f0", ""))
}

// P18.2: Rename to what is no name, and of a file that isn't there; that the name is none is told first.
func TestRenameErrors(t *testing.T) {
	for _, name := range notNames() {
		checkRefused(t, 100, three(), renaming("a", name), api.ErrName)
		checkRefused(t, 100, three(), renaming("d", name), api.ErrName)
		checkRefused(t, 100, three(), renaming(name, name), api.ErrName)
		checkRefused(t, 100, nil, renaming("", name), api.ErrName)
	}
	for _, name := range absent() {
		checkRefused(t, 100, three(), renaming(name, "a"), api.ErrNone)
		checkRefused(t, 100, three(), renaming(name, "d"), api.ErrNone)
		checkRefused(t, 100, nil, renaming(name, "d"), api.ErrNone)
	}
	checkRefused(t, 100, three(), renaming("d", "d"), api.ErrNone)
}

// P18.2: each byte that may and may not stand in a name that a file is given, and lengths.
func TestRenameNames(t *testing.T) {
	for n := range 256 {
		name := "a" + string([]byte{byte(n)})
		want := api.ErrName
		for i := range len(standing) {
			if standing[i] == byte(n) {
				want = api.OK
			}
		}
		d := after(t, 100, three()...)
		if e := d.Rename("a", name); e != want {
			t.Errorf("Rename to %q: error %d, not %d", name, e, want)
		}
	}
	must(t, after(t, 100, three()...), renaming("a", repeated("x", 32)), renaming(repeated("x", 32), "-"), renaming("-", repeated("-", 32)))
	checkRefused(t, 100, three(), renaming("a", repeated("x", 33)), api.ErrName)
}

// P18.2: what is removed is gone, sure or not; a new one of that name has nothing of it.
func TestRemove(t *testing.T) {
	checkDone(t, 100, three(), removing("a"), files("b", "xyz", "c", "pq"), files("b", "xyz", "c", ""))
	checkDone(t, 100, three(), removing("b"), files("a", "abcd", "c", "pq"), files("a", "ab", "c", ""))
	checkDone(t, 9, three(), removing("c"), files("a", "abcd", "b", "xyz"), files("a", "ab", "b", "xyz"))
	checkDone(t, 100, []step{putting("e", "")}, removing("e"), nil, nil)
	checkDone(t, 100, append(three(), removing("b"), putting("b", "new")), syncing("a"), files("a", "abcd", "b", "new", "c", "pq"), files("a", "abcd", "b", "", "c", ""))
}

// P18.2: Remove of a file that isn't there.
func TestRemoveNone(t *testing.T) {
	for _, name := range absent() {
		checkRefused(t, 100, three(), removing(name), api.ErrNone)
		checkRefused(t, 100, nil, removing(name), api.ErrNone)
	}
	checkRefused(t, 100, append(three(), removing("a")), removing("a"), api.ErrNone)
	checkRefused(t, 100, append(three(), renaming("a", "b")), removing("a"), api.ErrNone)
}

// P18.2: at 0, within what is sure, at its end, within the tail, at its end, and beyond it.
func TestShorten(t *testing.T) {
	others := func(a string, c string) (want []held) { return files("a", a, "b", "xyz", "c", c) }
	for n, x := range []struct{ bytes, sure string }{{"", ""}, {"a", "a"}, {"ab", "ab"}, {"abc", "ab"}, {"abcd", "ab"}, {"abcd", "ab"}, {"abcd", "ab"}} {
		checkDone(t, 100, three(), shortening("a", n), others(x.bytes, "pq"), others(x.sure, ""))
	}
	for _, n := range []int{100, 1 << 31, 1 << 32, math.MaxInt} {
		checkDone(t, 100, three(), shortening("a", n), others("abcd", "pq"), others("ab", ""))
	}
	checkDone(t, 100, three(), shortening("c", 1), others("abcd", "p"), others("ab", ""))
	checkDone(t, 100, three(), shortening("b", 1), files("a", "abcd", "b", "x", "c", "pq"), files("a", "ab", "b", "x", "c", ""))
	checkDone(t, 100, []step{putting("e", "")}, shortening("e", 0), files("e", ""), files("e", ""))
	checkDone(t, 100, []step{putting("e", "")}, shortening("e", 1), files("e", ""), files("e", ""))
}

// P18.2: what is put behind a file that was shortened isn't sure, also where something sure was.
func TestShortenAndAppend(t *testing.T) {
	for _, n := range []int{0, 1, 2} {
		d := after(t, 100, putting("a", "abcd"), syncing("a"), shortening("a", n), putting("a", "WXYZ"))
		checkFiles(t, "put behind", d, 100, files("a", "abcd"[:n]+"WXYZ")...)
		checkSure(t, "put behind", d, 100, files("a", "abcd"[:n])...)
	}
	checkDone(t, 100, []step{putting("a", "abcd"), syncing("a"), shortening("a", 1), putting("a", "WXYZ")}, shortening("a", 3), files("a", "aWX"), files("a", "a"))
	checkDone(t, 100, []step{putting("a", "abcd"), syncing("a"), shortening("a", 1), putting("a", "WXYZ")}, syncing("a"), files("a", "aWXYZ"), files("a", "aWXYZ"))
}

// P18.2: Shorten of a file that isn't there, and below 0; that there is none is told first.
func TestShortenErrors(t *testing.T) {
	for _, n := range []int{-1, -2, -4, -100, math.MinInt, 0, 1, math.MaxInt} {
		for _, name := range absent() {
			checkRefused(t, 100, three(), shortening(name, n), api.ErrNone)
		}
		checkRefused(t, 100, nil, shortening("a", n), api.ErrNone)
		if n < 0 {
			checkRefused(t, 100, three(), shortening("a", n), api.ErrArg)
			checkRefused(t, 100, three(), shortening("b", n), api.ErrArg)
			checkRefused(t, 100, []step{putting("e", "")}, shortening("e", n), api.ErrArg)
		}
	}
}
