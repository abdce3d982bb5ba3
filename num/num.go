// Package num is numbers and texts as bytes.
package num

// Uint is a number's bytes, behind some.
func Uint(b []byte, n uint64) []byte {
	k := size(n)
	out := behind(b, k)
	cut(out[len(b):], n)
	return out
}

// Int is a number's bytes, of either sign, behind some.
func Int(b []byte, n int) []byte {
	twice := uint64(n) << 1
	if n < 0 {
		// -2 n - 1, without the overflow that -n of the least int would be.
		twice = ^twice
	}
	return Uint(b, twice)
}

// Text is a text's bytes, behind some.
func Text(b []byte, s string) []byte {
	n := uint64(len(s))
	k := size(n)
	out := behind(b, k+len(s))
	cut(out[len(b):len(b)+k], n)
	copy(out[len(b)+k:], s)
	return out
}

// behind is a copy of b with room for so many bytes behind it.
func behind(b []byte, more int) []byte {
	out := make([]byte, len(b)+more)
	copy(out, b)
	return out
}

// size is how many bytes a number has.
func size(n uint64) int {
	for k := range 8 {
		if n>>(7*(k+1)) == 0 {
			return k + 1
		}
	}
	return 9
}

// said is how many bytes a number has, by its first one.
func said(first byte) int {
	for k := range 8 {
		if first<<k>>7 == 0 {
			return k + 1
		}
	}
	return 9
}

// cut lays a number into bytes, which are just so many as it has.
func cut(to []byte, n uint64) {
	k := len(to)
	for i := range k {
		// Of nine bytes the first one has no bits of the number: a shift by 64 leaves none.
		to[i] = byte(n >> (8 * (k - 1 - i)))
	}
	// The bits that say how many bytes there are come down from the higher byte.
	to[0] |= byte(uint16(0xff00) >> (k - 1))
}

// join puts a number together from all its bytes.
func join(from []byte) uint64 {
	k := len(from)
	n := uint64(from[0] << k >> k)
	for i := range k - 1 {
		n = n<<8 | uint64(from[i+1])
	}
	return n
}
