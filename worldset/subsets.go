package worldset

import (
	"math/bits"

	"witting/api"
)

// First returns the first set of k worlds below n: ErrRange.
func First(n, k int) (uint64, int) {
	if n < 0 || n > api.MaxWorlds || k < 0 || k > n {
		return 0, api.ErrRange
	}
	return All(k), api.OK
}

// Next returns the next set of as many worlds below n, and whether there is one.
func Next(n int, s uint64) (uint64, bool) {
	// All(n) is also empty if n is out of range, and then no set of worlds fits.
	all := All(n)
	if s == 0 || s&^all != 0 {
		return 0, false
	}
	// Adding the lowest world moves the top of the lowest block of worlds one up.
	// The others of the block are the least number if they go down to bit 0.
	lowest := bits.TrailingZeros64(s)
	moved := s + only(lowest)
	if moved == 0 {
		return 0, false
	}
	// The changed bits are the block and the one above it: two more than are left to place.
	next := moved | (s^moved)>>(lowest+2)
	if next&^all != 0 {
		return 0, false
	}
	return next, true
}

// Subset returns the i-th subset of a set.
func Subset(s uint64, i int) (uint64, bool) {
	if i < 0 || uint64(i)>>Count(s) != 0 {
		return 0, false
	}
	var subset uint64
	for chosen := uint64(i); chosen != 0; chosen >>= 1 {
		if chosen&1 != 0 {
			subset |= s & -s
		}
		s &= s - 1
	}
	return subset, true
}
