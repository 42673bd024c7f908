package relation

import "math/bits"

// Box returns the points all of whose successors are in a set.
func Box(r []uint64, s uint64) uint64 {
	return where(r, func(successors uint64) bool { return successors&^s == 0 })
}

// Diamond returns the points with a successor in a set.
func Diamond(r []uint64, s uint64) uint64 {
	return where(r, func(successors uint64) bool { return successors&s != 0 })
}

// where returns the points of a valid relation whose successors pass a test.
func where(r []uint64, test func(successors uint64) bool) uint64 {
	if !valid(r) {
		return 0
	}
	var s uint64
	for w, successors := range r {
		if test(successors) {
			s |= only(w)
		}
	}
	return s
}

// Reach returns the points that one or more steps lead to from a set.
func Reach(r []uint64, from uint64) uint64 {
	if !valid(r) {
		return 0
	}
	reached := image(r, from)
	for {
		next := reached | image(r, reached)
		if next == reached {
			return reached
		}
		reached = next
	}
}

// Path returns a shortest path of one or more steps from a set to a set, or nothing.
func Path(r []uint64, from, to uint64) []int {
	if !valid(r) {
		return nil
	}
	steps := stepsTo(r, from, to)
	if len(steps) == 0 {
		return nil
	}
	last := len(steps) - 1
	path := make([]int, 0, len(steps))
	// The lowest point that can still arrive in time gives the lexicographically least path.
	next := from & steps[last]
	for i := last; i >= 0; i-- {
		w := bits.TrailingZeros64(next & steps[i])
		path = append(path, w)
		next = r[w]
	}
	return path
}

// stepsTo returns, for each number of steps from 0 on, the points from which so many steps lead to a set.
// It ends with the least number above 0 that a point of from has, or returns nothing if there is none.
func stepsTo(r []uint64, from, to uint64) []uint64 {
	steps := []uint64{to}
	// A shortest path has no more steps than there are points: it meets none twice, but may end where it began.
	for i := range r {
		before := Diamond(r, steps[i])
		steps = append(steps, before)
		if from&before != 0 {
			return steps
		}
	}
	return nil
}
