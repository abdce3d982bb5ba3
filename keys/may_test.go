package keys_test

import (
	"strings"
	"testing"

	"osier/api"
	"osier/keys"
)

// The calls, with just the signatures that the chapter lists.
var (
	_ func(string) bool                               = keys.May
	_ func(string, string) (string, api.Errno)        = keys.Between
	_ func(string, string, int) ([]string, api.Errno) = keys.Row
)

// of is so many times a text, and another one behind it.
func of(n int, s, end string) string { return strings.Repeat(s, n) + end }

// noKeys are texts, not empty, that are no keys.
func noKeys() []string {
	return []string{
		"a", "aa", "ba", "nza", "za", of(199, "b", "a"), of(200, "a", ""),
		of(200, "b", "b"), of(200, "a", "b"), of(200, "z", "a"), of(400, "n", ""), of(1<<16, "b", ""), of(1<<8, "b", ""), of(1<<8, "b", "bb"),
		"B", "Z", "bB", "Bb", "`", "{", "b`", "b{", "`b", "{b", "b`b", "b{b", "b b", " b", "b ", "b\n", "0", "b1", "-", "b.b",
		"\x00", "b\x00", "\x00b", "\xff", "b\xff", "\xe2b", "\xe1", "é", "bé", "日", "b日b", "ａ", "\x62\x80",
	}
}

// P6.1: texts written out.
func TestMayWrittenOut(t *testing.T) {
	for _, k := range []string{"b", "n", "z", "ab", "az", "bb", "bz", "zz", "aab", "ban", "bzn", "abcdefghijklmnopqrstuvwxyz", of(199, "a", "b"), of(200, "b", ""), of(200, "z", ""), of(199, "z", "b")} {
		if !keys.May(k) {
			t.Errorf("May(%q): false", k)
		}
	}
	for _, k := range append(noKeys(), "") {
		if keys.May(k) {
			t.Errorf("May(%q): true", k)
		}
	}
}

// P6.1: each byte alone.
func TestMayByte(t *testing.T) {
	for c := range 256 {
		want := c > 'a' && c <= 'z'
		if got := keys.May(string([]byte{byte(c)})); got != want {
			t.Errorf("May of byte %d: %v", c, got)
		}
	}
}

// P6.1: each byte in each place of texts of several lengths; `a` is right in each place but the last one.
func TestMayPlaces(t *testing.T) {
	for _, n := range []int{2, 3, 7, 199, 200} {
		for i := range n {
			for c := range 256 {
				b := []byte(of(n, "m", ""))
				b[i] = byte(c)
				want := c >= 'a' && c <= 'z' && (c != 'a' || i < n-1)
				if got := keys.May(string(b)); got != want {
					t.Errorf("May of %d bytes, byte %d at %d: %v", n, c, i, got)
				}
			}
		}
	}
}

// P6.1: each length, of texts that end in each letter.
func TestMayLengths(t *testing.T) {
	for n := 1; n <= 300; n++ {
		for c := 'a'; c <= 'z'; c++ {
			for _, s := range []string{"a", "b", "z"} {
				k := of(n-1, s, string(c))
				want := n <= 200 && c != 'a'
				if got := keys.May(k); got != want {
					t.Errorf("May of %d bytes %s and %c: %v", n-1, s, c, got)
				}
			}
		}
	}
}
