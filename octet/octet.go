// Package octet: numbers as bytes, the lowest first: see DOC.md, chapter 1.
package octet

// Put32 writes n as four bytes, the lowest first.
func Put32(n uint32) []byte {
	var b [4]byte
	for i := range b {
		b[i] = byte(n >> (8 * i))
	}
	return b[:]
}

// Put64 writes n as eight bytes, the lowest first.
func Put64(n uint64) []byte {
	var b [8]byte
	for i := range b {
		b[i] = byte(n >> (8 * i))
	}
	return b[:]
}

// Get32 reads the first four bytes of b; false, if there are fewer.
func Get32(b []byte) (uint32, bool) {
	if len(b) < 4 {
		return 0, false
	}
	var n uint32
	for i := range 4 {
		n |= uint32(b[i]) << (8 * i)
	}
	return n, true
}

// Get64 reads the first eight bytes of b; false, if there are fewer.
func Get64(b []byte) (uint64, bool) {
	if len(b) < 8 {
		return 0, false
	}
	var n uint64
	for i := range 8 {
		n |= uint64(b[i]) << (8 * i)
	}
	return n, true
}

// Xor is the exclusive or of a and b, as long as the shorter one.
func Xor(a, b []byte) []byte {
	out := make([]byte, min(len(a), len(b)))
	for i := range out {
		out[i] = a[i] ^ b[i]
	}
	return out
}

// Same tells whether a and b hold the same bytes.
func Same(a, b []byte) bool {
	// Leaving at the first byte that parts would tell by the time it takes
	// how much of a tag was guessed.
	var parted byte
	for i := range min(len(a), len(b)) {
		parted |= a[i] ^ b[i]
	}
	return parted == 0 && len(a) == len(b)
}

// Clone is b in new memory.
func Clone(b []byte) []byte {
	return Join(b)
}

// Join is all lists of l, one behind the other, in new memory.
func Join(l ...[]byte) []byte {
	total := 0
	for _, b := range l {
		total += len(b)
	}
	// Room for just so many: no spare room is left to be shared.
	out := make([]byte, 0, total)
	for _, b := range l {
		for _, x := range b {
			out = append(out, x)
		}
	}
	return out
}
