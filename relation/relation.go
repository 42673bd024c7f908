// Package relation is layer 2: see shared/doc/02-relation.md.
//
// A relation is a list of words: bit v of the word w is set if v is a successor of w.
package relation

import (
	"iter"
	"math/bits"

	"witting/api"
)

// maxPoints is the number of bits of a word.
const maxPoints = 64

// Check returns the first error of a relation over n points.
func Check(n int, r []uint64) int {
	if n < 0 || n > maxPoints {
		return api.ErrRange
	}
	if len(r) != n {
		return api.ErrForm
	}
	for _, successors := range r {
		if successors&^all(n) != 0 {
			return api.ErrArg
		}
	}
	return api.OK
}

// valid reports whether a list is a relation over as many points as it has words.
func valid(r []uint64) bool {
	return Check(len(r), r) == api.OK
}

// checkBoth returns the first error of two relations over the same points.
func checkBoth(r, s []uint64) int {
	if e := Check(len(r), r); e != api.OK {
		return e
	}
	if e := Check(len(s), s); e != api.OK {
		return e
	}
	if len(r) != len(s) {
		return api.ErrArg
	}
	return api.OK
}

// all returns the set of n points.
func all(n int) uint64 {
	// A shift by 64 leaves 0, so that the full set needs no case of its own.
	return uint64(1)<<n - 1
}

// only returns the set of a single point.
func only(w int) uint64 {
	return uint64(1) << w
}

// points ranges over the points of a set in ascending order.
func points(s uint64) iter.Seq[int] {
	return func(yield func(int) bool) {
		for rest := s; rest != 0; rest &= rest - 1 {
			if !yield(bits.TrailingZeros64(rest)) {
				return
			}
		}
	}
}

// image returns the successors of the points of a set.
func image(r []uint64, s uint64) uint64 {
	var successors uint64
	for w := range points(s & all(len(r))) {
		successors |= r[w]
	}
	return successors
}

// Compose returns the pairs that a step of r and then one of s lead through.
func Compose(r, s []uint64) ([]uint64, int) {
	return combine(r, s, func(w int) uint64 { return image(s, r[w]) })
}

// Union returns the pairs of r or s.
func Union(r, s []uint64) ([]uint64, int) {
	return combine(r, s, func(w int) uint64 { return r[w] | s[w] })
}

// Meet returns the pairs of r and s.
func Meet(r, s []uint64) ([]uint64, int) {
	return combine(r, s, func(w int) uint64 { return r[w] & s[w] })
}

// combine returns a relation over the points of r and s, given the successors of each point.
func combine(r, s []uint64, successors func(w int) uint64) ([]uint64, int) {
	if e := checkBoth(r, s); e != api.OK {
		return nil, e
	}
	c := make([]uint64, len(r))
	for w := range c {
		c[w] = successors(w)
	}
	return c, api.OK
}

// Converse returns the reversed pairs.
func Converse(r []uint64) ([]uint64, int) {
	if e := Check(len(r), r); e != api.OK {
		return nil, e
	}
	c := make([]uint64, len(r))
	for w, successors := range r {
		for v := range points(successors) {
			c[v] |= only(w)
		}
	}
	return c, api.OK
}
