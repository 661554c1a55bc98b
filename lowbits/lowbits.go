// Package lowbits: numbers that are told by their lowest bits, beside a
// reference that both ends know.
package lowbits

import "gist/api"

// Low16 tells the number of 16 bits that k bits tell.
func Low16(ref uint16, k int, p uint16, bits uint16) (uint16, api.Errno) {
	number, err := low(16, uint64(ref), k, uint64(p), uint64(bits))
	return uint16(number), err
}

// Low32 tells the number of 32 bits that k bits tell.
func Low32(ref uint32, k int, p uint32, bits uint32) (uint32, api.Errno) {
	number, err := low(32, uint64(ref), k, uint64(p), uint64(bits))
	return uint32(number), err
}

// Fits16 tells whether k bits can tell v, a number of 16 bits.
func Fits16(v uint16, ref uint16, k int, p uint16) (bool, api.Errno) {
	return fits(16, uint64(v), uint64(ref), k, uint64(p))
}

// Fits32 tells whether k bits can tell v, a number of 32 bits.
func Fits32(v uint32, ref uint32, k int, p uint32) (bool, api.Errno) {
	return fits(32, uint64(v), uint64(ref), k, uint64(p))
}

// low leaves the bits above the width as they come: its answer holds once it
// is cut to the width.
func low(width int, ref uint64, k int, p uint64, bits uint64) (uint64, api.Errno) {
	count := countOf(k, width)
	if p >= count || bits >= count {
		return 0, api.ErrNumber
	}
	first := ref - p
	ahead := (bits - first) & (count - 1)
	return first + ahead, api.OK
}

// fits cuts the way from the first number to v to the width, so that it goes
// past the greatest number on to 0.
func fits(width int, v uint64, ref uint64, k int, p uint64) (bool, api.Errno) {
	count := countOf(k, width)
	if p >= count {
		return false, api.ErrNumber
	}
	first := ref - p
	ahead := (v - first) & (countOf(width, width) - 1)
	return ahead < count, api.OK
}

// countOf tells how many numbers k bits can tell. It is 64 bits wide, for 2^k
// itself does not fit into the width at its edge. A k that may not be tells
// none, so that no shift is below the count.
func countOf(k int, width int) uint64 {
	if k < 0 || k > width {
		return 0
	}
	return uint64(1) << uint(k)
}
