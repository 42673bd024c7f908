package observe

import (
	"witting/api"
	"witting/model"
	"witting/worldset"
)

// Product returns two models side by side, with the pairs that its worlds are: the errors of model.Check, ErrArg, ErrLimit.
func Product(a, b api.Model) (api.Model, [][2]int, int) {
	if e := checkBoth(a, b); e != api.OK {
		return api.Model{}, nil, e
	}
	pairs := pairsOf(a.Worlds, b.Worlds)
	m := api.Model{Worlds: len(pairs), Rel: make([][]uint64, len(a.Rel))}
	for _, s := range a.Val {
		m.Val = append(m.Val, pairSet(s, worldset.All(b.Worlds), b.Worlds))
	}
	for _, s := range b.Val {
		m.Val = append(m.Val, pairSet(worldset.All(a.Worlds), s, b.Worlds))
	}
	for agent := range m.Rel {
		for _, p := range pairs {
			m.Rel[agent] = append(m.Rel[agent], pairSet(a.Rel[agent][p[0]], b.Rel[agent][p[1]], b.Worlds))
		}
	}
	return m, pairs, api.OK
}

// checkBoth returns the error of two models, ErrArg if the numbers of their agents differ, or ErrLimit if their product is too large.
func checkBoth(a, b api.Model) int {
	if e := model.Check(a); e != api.OK {
		return e
	}
	if e := model.Check(b); e != api.OK {
		return e
	}
	if len(a.Rel) != len(b.Rel) {
		return api.ErrArg
	}
	if a.Worlds*b.Worlds > api.MaxWorlds || len(a.Val)+len(b.Val) > api.MaxFacts {
		return api.ErrLimit
	}
	return api.OK
}

// pairsOf returns the pairs of a number below m and one below n, in ascending order.
func pairsOf(m, n int) [][2]int {
	pairs := make([][2]int, 0, m*n)
	for v := range m {
		for w := range n {
			pairs = append(pairs, [2]int{v, w})
		}
	}
	return pairs
}

// pairSet returns the set of the pairs of a world of s and one of t, a world of a model with n worlds.
func pairSet(s, t uint64, n int) uint64 {
	var set uint64
	for _, v := range worldset.Members(s) {
		set |= t << (v * n)
	}
	return set
}
