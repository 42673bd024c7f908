// Package worldset is layer 1: see shared/doc/01-worldset.md.
//
// A set of worlds is a number: the world w is in the set if bit w is set.
package worldset

import (
	"math/bits"

	"witting/api"
)

// All returns the set of the worlds 0 to n - 1.
func All(n int) uint64 {
	if n < 0 || n > api.MaxWorlds {
		return 0
	}
	// A shift by 64 leaves 0, so that the full set needs no case of its own.
	return uint64(1)<<n - 1
}

// isWorld reports whether a number has a bit in a set.
func isWorld(w int) bool {
	return w >= 0 && w < api.MaxWorlds
}

// only returns the set of a single world, which isWorld accepts.
func only(w int) uint64 {
	return uint64(1) << w
}

// Of returns the set of the worlds of a list: ErrRange, ErrExist.
func Of(l []int) (uint64, int) {
	var s uint64
	for _, w := range l {
		if !isWorld(w) {
			return 0, api.ErrRange
		}
		if Has(s, w) {
			return 0, api.ErrExist
		}
		s |= only(w)
	}
	return s, api.OK
}

// Members returns the worlds of a set in ascending order.
func Members(s uint64) []int {
	l := make([]int, 0, Count(s))
	for ; s != 0; s &= s - 1 {
		l = append(l, bits.TrailingZeros64(s))
	}
	return l
}

// Count returns the number of worlds of a set.
func Count(s uint64) int {
	return bits.OnesCount64(s)
}

// Lowest returns the lowest world of a set, or -1.
func Lowest(s uint64) int {
	if s == 0 {
		return -1
	}
	return bits.TrailingZeros64(s)
}

// Has reports whether a world is in a set.
func Has(s uint64, w int) bool {
	return isWorld(w) && s&only(w) != 0
}

// Rename returns the set of the new numbers of the worlds of a set: ErrNone, ErrRange.
func Rename(s uint64, to []int) (uint64, int) {
	var renamed uint64
	for ; s != 0; s &= s - 1 {
		w := bits.TrailingZeros64(s)
		if w >= len(to) {
			return 0, api.ErrNone
		}
		if !isWorld(to[w]) {
			return 0, api.ErrRange
		}
		renamed |= only(to[w])
	}
	return renamed, api.OK
}
