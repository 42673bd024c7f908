package partition

import (
	"slices"

	"witting/api"
)

// Meet returns the coarsest partition that refines both.
func Meet(a, b []int) ([]int, int) {
	if e := checkBoth(a, b); e != api.OK {
		return nil, e
	}
	return Split(a, b)
}

// Join returns the finest partition that both refine.
func Join(a, b []int) ([]int, int) {
	if e := checkBoth(a, b); e != api.OK {
		return nil, e
	}
	p := slices.Clone(a)
	lowest := func(i int) int {
		for p[i] != i {
			i = p[i]
		}
		return i
	}
	for i, companion := range b {
		u, v := lowest(i), lowest(companion)
		p[max(u, v)] = min(u, v)
	}
	for i := range p {
		p[i] = lowest(i)
	}
	return p, api.OK
}

// Refines reports whether each block of a is contained in a block of b.
func Refines(a, b []int) bool {
	if checkBoth(a, b) != api.OK {
		return false
	}
	for i, companion := range a {
		if b[i] != b[companion] {
			return false
		}
	}
	return true
}

// Split divides the blocks by keys of the points.
func Split(p, keys []int) ([]int, int) {
	if e := Check(p); e != api.OK {
		return nil, e
	}
	if len(keys) != len(p) {
		return nil, api.ErrForm
	}
	type part struct{ block, key int }
	first := map[part]int{}
	q := make([]int, len(p))
	for i, block := range p {
		of := part{block, keys[i]}
		if _, found := first[of]; !found {
			first[of] = i
		}
		q[i] = first[of]
	}
	return q, api.OK
}

// checkBoth returns the first error of two partitions of the same points.
func checkBoth(a, b []int) int {
	if e := Check(a); e != api.OK {
		return e
	}
	if e := Check(b); e != api.OK {
		return e
	}
	if len(a) != len(b) {
		return api.ErrForm
	}
	return api.OK
}
