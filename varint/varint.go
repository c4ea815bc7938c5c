// Package varint: numbers of variable length (doc/01-varint.md).
package varint

import "micropart/api"

const (
	groupBits = 7                // bits of the number in each byte
	groupMask = 1<<groupBits - 1 // the bits of the number within a byte
	moreBit   = 1 << groupBits   // set in each byte that is not the last one
	maxSize   = 10               // groups of a number of 64 bits
	maxTop    = 1                // nine groups hold 63 bits, which leaves one bit for the tenth
)

// Put returns the encoding of v: groups of seven bits, the lowest group first, one group per byte; all bytes but the last one have the highest bit set.
func Put(v uint64) string {
	encoding := make([]byte, 0, maxSize)
	for v > groupMask {
		encoding = append(encoding, byte(v&groupMask)|moreBit)
		v >>= groupBits
	}
	return string(append(encoding, byte(v)))
}

// Size returns the number of bytes of Put(v), from 1 to 10.
func Size(v uint64) int {
	size := 1
	for v > groupMask {
		v >>= groupBits
		size++
	}
	return size
}

// Get reads an encoding that begins at index at of s, and returns the number and the index after it.
// Encodings that Put does not return are refused, so that a number has one encoding only.
func Get(s string, at int) (uint64, int, api.Errno) {
	if at < 0 || at > len(s) {
		return 0, 0, api.ErrRange
	}
	size, e := encodedSize(s[at:])
	if e != api.OK {
		return 0, 0, e
	}
	last := s[at+size-1]
	if size == maxSize && last > maxTop {
		return 0, 0, api.ErrOverflow
	}
	if size > 1 && last == 0 {
		return 0, 0, api.ErrForm
	}
	return joinGroups(s[at : at+size]), at + size, api.OK
}

// encodedSize returns the number of bytes up to the first one that ends an encoding.
// It reads no more bytes than an encoding can have: a tenth byte that does not end it
// means that the number is too great, however s continues.
func encodedSize(s string) (int, api.Errno) {
	for i := range min(len(s), maxSize) {
		if s[i]&moreBit == 0 {
			return i + 1, api.OK
		}
	}
	if len(s) < maxSize {
		return 0, api.ErrShort
	}
	return 0, api.ErrOverflow
}

// joinGroups returns the number whose groups are the bytes of s, the lowest group first.
func joinGroups(s string) uint64 {
	v := uint64(0)
	for i := len(s) - 1; i >= 0; i-- {
		v = v<<groupBits | uint64(s[i]&groupMask)
	}
	return v
}

// Zig returns 2 * n for a number n that is not negative, and -2 * n - 1 for a negative one.
func Zig(n int64) uint64 {
	// The arithmetic shift yields all ones for a negative n, which turns the doubled
	// number into -2 * n - 1 without overflow, even for the least number.
	return uint64(n)<<1 ^ uint64(n>>63)
}

// Zag returns the number n for which Zig(n) is v.
func Zag(v uint64) int64 {
	return int64(v>>1) ^ -int64(v&1)
}
