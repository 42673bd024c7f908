package bisim

import (
	"slices"

	"witting/api"
	"witting/model"
	"witting/worldset"
)

// Check returns OK if a relation between the worlds of two models is a bisimulation: the errors of model.Check, ErrArg, ErrForm, ErrRange, ErrProof.
func Check(a, b api.Model, z []uint64) int {
	if e := checkBoth(a, b); e != api.OK {
		return e
	}
	if len(z) != a.Worlds {
		return api.ErrForm
	}
	others := ^worldset.All(b.Worlds)
	if slices.ContainsFunc(z, func(s uint64) bool { return s&others != 0 }) {
		return api.ErrRange
	}
	if !slices.Equal(kept(a, b, z), z) {
		return api.ErrProof
	}
	return api.OK
}

// checkBoth returns the error of two models, or ErrArg if the numbers of their agents or facts differ.
func checkBoth(a, b api.Model) int {
	if e := model.Check(a); e != api.OK {
		return e
	}
	if e := model.Check(b); e != api.OK {
		return e
	}
	if len(a.Rel) != len(b.Rel) || len(a.Val) != len(b.Val) {
		return api.ErrArg
	}
	return api.OK
}

// Between returns the greatest bisimulation between two models: the errors of model.Check, ErrArg.
func Between(a, b api.Model) ([]uint64, int) {
	if e := checkBoth(a, b); e != api.OK {
		return nil, e
	}
	// No pair of a bisimulation that is a part of z is taken out, so the greatest bisimulation is what is left.
	z := slices.Repeat([]uint64{worldset.All(b.Worlds)}, a.Worlds)
	for next := kept(a, b, z); !slices.Equal(next, z); next = kept(a, b, z) {
		z = next
	}
	return z, api.OK
}

// Bisimilar reports whether a world of a and a world of b are bisimilar: the errors of Between, ErrRange.
func Bisimilar(a api.Model, v int, b api.Model, w int) (bool, int) {
	z, e := Between(a, b)
	if e != api.OK {
		return false, e
	}
	if v < 0 || v >= a.Worlds || w < 0 || w >= b.Worlds {
		return false, api.ErrRange
	}
	return worldset.Has(z[v], w), api.OK
}

// kept returns those pairs of a relation that satisfy the conditions of a bisimulation: the relation is one if these are all pairs.
func kept(a, b api.Model, z []uint64) []uint64 {
	factsOfA, factsOfB := masks(a), masks(b)
	k := make([]uint64, len(z))
	for v, s := range z {
		for _, w := range worldset.Members(s) {
			if factsOfA[v] == factsOfB[w] && agree(a, v, b, w, z) {
				k[v] |= 1 << w
			}
		}
	}
	return k
}

// agree reports whether, for each agent, the successors of v and of w match.
func agree(a api.Model, v int, b api.Model, w int, z []uint64) bool {
	for agent := range a.Rel {
		if !match(a.Rel[agent][v], b.Rel[agent][w], z) {
			return false
		}
	}
	return true
}

// match reports whether each world of s is related to one of t, and the other way round.
func match(s, t uint64, z []uint64) bool {
	var met uint64
	for _, v := range worldset.Members(s) {
		if z[v]&t == 0 {
			return false
		}
		met |= z[v]
	}
	return t&^met == 0
}
