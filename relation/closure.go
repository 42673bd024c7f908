package relation

import (
	"slices"

	"witting/api"
)

// A step adds to a relation the pairs that a property demands because of the successors of one point.
type step func(c []uint64, w int)

// Reflexive returns the reflexive closure.
func Reflexive(r []uint64) ([]uint64, int) {
	return closure(r, stepReflexive)
}

// Symmetric returns the symmetric closure.
func Symmetric(r []uint64) ([]uint64, int) {
	return closure(r, stepSymmetric)
}

// Transitive returns the transitive closure.
func Transitive(r []uint64) ([]uint64, int) {
	return closure(r, stepTransitive)
}

// Euclidean returns the euclidean closure.
func Euclidean(r []uint64) ([]uint64, int) {
	return closure(r, stepEuclidean)
}

// Has reports whether a relation has a property (api.PropSerial ..).
func Has(r []uint64, property int) bool {
	if !valid(r) {
		return false
	}
	switch property {
	case api.PropSerial:
		return !slices.Contains(r, 0)
	case api.PropReflexive:
		return closed(r, stepReflexive)
	case api.PropSymmetric:
		return closed(r, stepSymmetric)
	case api.PropTransitive:
		return closed(r, stepTransitive)
	case api.PropEuclidean:
		return closed(r, stepEuclidean)
	}
	return false
}

// closure repeats a step at all points until nothing changes.
// A step adds only pairs that every relation with the property has, so the result is the least one.
func closure(r []uint64, add step) ([]uint64, int) {
	if e := Check(len(r), r); e != api.OK {
		return nil, e
	}
	c := slices.Clone(r)
	for next := extend(c, add); !slices.Equal(next, c); next = extend(c, add) {
		c = next
	}
	return c, api.OK
}

// closed reports whether a step adds nothing to a valid relation.
func closed(r []uint64, add step) bool {
	return slices.Equal(extend(r, add), r)
}

// extend returns a relation with what a step adds at each of its points.
func extend(r []uint64, add step) []uint64 {
	c := slices.Clone(r)
	for w := range c {
		add(c, w)
	}
	return c
}

func stepReflexive(c []uint64, w int) {
	c[w] |= only(w)
}

func stepSymmetric(c []uint64, w int) {
	for v := range points(c[w]) {
		c[v] |= only(w)
	}
}

func stepTransitive(c []uint64, w int) {
	c[w] |= image(c, c[w])
}

func stepEuclidean(c []uint64, w int) {
	for u := range points(c[w]) {
		c[u] |= c[w]
	}
}
