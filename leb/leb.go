// Package leb encodes LEB128 numbers: groups of seven bits, the least significant group first, in as
// few bytes as possible. Instructions, debug information and patches are written with it.
package leb

// Put adds the encoding of a number to b.
func Put(b []byte, n uint64) []byte {
	for n >= 128 {
		b = append(b, byte(n)|128)
		n >>= 7
	}
	return append(b, byte(n))
}

// Get returns the number with whose encoding b begins, and the length of the encoding; the length is
// 0 if there is none.
func Get(b []byte) (n uint64, size int) {
	for i, c := range b {
		if i == 9 && c > 1 || i > 9 {
			return 0, 0
		}
		n |= uint64(c&127) << (7 * i)
		if c < 128 {
			if c == 0 && i > 0 { // a byte less would have done
				return 0, 0
			}
			return n, i + 1
		}
	}
	return 0, 0
}
