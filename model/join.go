package model

import (
	"math"
	"slices"

	"witting/api"
)

// Union returns the disjoint union of two models: the errors of Check, ErrArg, ErrLimit.
func Union(a, b api.Model) (api.Model, int) {
	if e := Check(a); e != api.OK {
		return api.Model{}, e
	}
	if e := Check(b); e != api.OK {
		return api.Model{}, e
	}
	if len(a.Rel) != len(b.Rel) || len(a.Val) != len(b.Val) {
		return api.Model{}, api.ErrArg
	}
	if a.Worlds+b.Worlds > api.MaxWorlds {
		return api.Model{}, api.ErrLimit
	}
	u := api.Model{Worlds: a.Worlds + b.Worlds, Val: make([]uint64, len(a.Val)), Rel: make([][]uint64, len(a.Rel))}
	for fact := range u.Val {
		u.Val[fact] = a.Val[fact] | b.Val[fact]<<a.Worlds
	}
	for agent := range u.Rel {
		u.Rel[agent] = slices.Concat(a.Rel[agent], b.Rel[agent])
		for w := a.Worlds; w < u.Worlds; w++ {
			u.Rel[agent][w] <<= a.Worlds
		}
	}
	return u, api.OK
}

// Group returns the union of the relations of a group, or nil.
func Group(m api.Model, group int) []uint64 {
	return combine(m, group, 0, func(s, successors uint64) uint64 { return s | successors })
}

// Meet returns the intersection of the relations of a group, or nil.
func Meet(m api.Model, group int) []uint64 {
	return combine(m, group, math.MaxUint64, func(s, successors uint64) uint64 { return s & successors })
}

// combine returns for each world what an operation makes of a set and the successors for the agents of a group, one agent after the other; nil without a valid model and a group of its agents.
func combine(m api.Model, group int, start uint64, operation func(s, successors uint64) uint64) []uint64 {
	if Check(m) != api.OK || group < 1 || group >= 1<<len(m.Rel) {
		return nil
	}
	combined := slices.Repeat([]uint64{start}, m.Worlds)
	for agent, r := range m.Rel {
		if group>>agent&1 == 0 {
			continue
		}
		for w := range combined {
			combined[w] = operation(combined[w], r[w])
		}
	}
	return combined
}
