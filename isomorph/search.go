package isomorph

import (
	"iter"
	"slices"

	"witting/api"
	"witting/model"
	"witting/worldset"
)

const (
	maxCompared = 12 // worlds of the models that Isomorphic compares
	maxCounted  = 8  // worlds of a model whose automorphisms are counted
)

// Check returns OK if a list is an isomorphism from a to b: the errors of model.Check, ErrArg, ErrForm, ErrProof.
func Check(a, b api.Model, to []int) int {
	if e := checkBoth(a, b); e != api.OK {
		return e
	}
	if a.Worlds != b.Worlds {
		return api.ErrArg
	}
	image, e := model.Rename(a, to)
	if e != api.OK {
		return api.ErrForm
	}
	if !model.Same(image, b) {
		return api.ErrProof
	}
	return api.OK
}

// checkBoth returns the error of two models, or ErrArg if the numbers of their agents or facts differ.
func checkBoth(a, b api.Model) int {
	if e := model.Check(a); e != api.OK {
		return e
	}
	if e := model.Check(b); e != api.OK {
		return e
	}
	if len(a.Rel) != len(b.Rel) || len(a.Val) != len(b.Val) {
		return api.ErrArg
	}
	return api.OK
}

// Isomorphic returns an isomorphism from a to b: the errors of model.Check, ErrArg, ErrLimit, ErrNone.
func Isomorphic(a, b api.Model) ([]int, int) {
	if e := checkBoth(a, b); e != api.OK {
		return nil, e
	}
	if a.Worlds > maxCompared || b.Worlds > maxCompared {
		return nil, api.ErrLimit
	}
	for to := range isomorphisms(a, b) {
		return to, api.OK
	}
	return nil, api.ErrNone
}

// Automorphisms returns the number of isomorphisms from a model to itself: the error of model.Check, ErrLimit.
func Automorphisms(m api.Model) (int, int) {
	if e := model.Check(m); e != api.OK {
		return 0, e
	}
	if m.Worlds > maxCounted {
		return 0, api.ErrLimit
	}
	count := 0
	for range isomorphisms(m, m) {
		count++
	}
	return count, api.OK
}

// isomorphisms ranges over the isomorphisms between two valid models with the same numbers of agents and facts.
// The models have few worlds; the memory of a list that is yielded is used for the next one.
func isomorphisms(a, b api.Model) iter.Seq[[]int] {
	return func(yield func(to []int) bool) {
		if a.Worlds != b.Worlds {
			return
		}
		// Isomorphisms keep the colors of two models that are laid side by side.
		union, _ := model.Union(a, b)
		colors, _ := Colors(union)
		to := make([]int, 0, a.Worlds)
		// extend adds images of the other worlds in all possible ways, and reports whether more isomorphisms are wanted.
		var extend func() bool
		extend = func() bool {
			w := len(to)
			if w == a.Worlds {
				return yield(to)
			}
		images:
			for v := range b.Worlds {
				if colors[w] != colors[a.Worlds+v] || slices.Contains(to, v) {
					continue
				}
				to = append(to, v)
				for u, image := range to {
					if !alike(a, w, u, b, v, image) || !alike(a, u, w, b, image, v) {
						to = to[:w]
						continue images
					}
				}
				if !extend() {
					return false
				}
				to = to[:w]
			}
			return true
		}
		extend()
	}
}

// alike reports whether the same agents lead from w to u in a as from v to x in b.
func alike(a api.Model, w, u int, b api.Model, v, x int) bool {
	for agent := range a.Rel {
		if worldset.Has(a.Rel[agent][w], u) != worldset.Has(b.Rel[agent][v], x) {
			return false
		}
	}
	return true
}
