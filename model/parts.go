package model

import (
	"math/bits"

	"witting/api"
)

// Restrict returns a model restricted to a set of worlds, and these worlds: the error of Check, ErrRange, ErrNone.
func Restrict(m api.Model, set uint64) (api.Model, []int, int) {
	if e := checkSet(m, set); e != api.OK {
		return api.Model{}, nil, e
	}
	if set == 0 {
		return api.Model{}, nil, api.ErrNone
	}
	worlds := members(set)
	return pick(m, worlds), worlds, api.OK
}

// Generated returns the worlds that can be reached from a set: the error of Check, ErrRange.
func Generated(m api.Model, from uint64) (uint64, int) {
	if e := checkSet(m, from); e != api.OK {
		return 0, e
	}
	reached := from
	for open := from; open != 0; {
		w := bits.TrailingZeros64(open)
		open &= open - 1
		for _, r := range m.Rel {
			open |= r[w] &^ reached
			reached |= r[w]
		}
	}
	return reached, api.OK
}

// checkSet returns the error of a model, or ErrRange if a set contains a world that it does not have.
func checkSet(m api.Model, set uint64) int {
	if e := Check(m); e != api.OK {
		return e
	}
	if !within(m.Worlds, set) {
		return api.ErrRange
	}
	return api.OK
}

// Rename gives the worlds other numbers: the error of Check, ErrArg.
func Rename(m api.Model, to []int) (api.Model, int) {
	if e := Check(m); e != api.OK {
		return api.Model{}, e
	}
	if len(to) != m.Worlds {
		return api.Model{}, api.ErrArg
	}
	from, ok := inverse(to)
	if !ok {
		return api.Model{}, api.ErrArg
	}
	return pick(m, from), api.OK
}

// inverse returns the inverse of a permutation of at most api.MaxWorlds numbers, and whether the list is one.
func inverse(to []int) ([]int, bool) {
	from := make([]int, len(to))
	var seen uint64
	for w, v := range to {
		if v < 0 || v >= len(to) || seen>>v&1 == 1 {
			return nil, false
		}
		seen |= 1 << v
		from[v] = w
	}
	return from, true
}

// pick returns the model of some worlds of a valid model, and of nothing else: the number of a world is its index in the list.
func pick(m api.Model, worlds []int) api.Model {
	part := api.Model{Worlds: len(worlds), Val: make([]uint64, len(m.Val)), Rel: make([][]uint64, len(m.Rel))}
	for fact, s := range m.Val {
		part.Val[fact] = indices(worlds, s)
	}
	for agent, r := range m.Rel {
		part.Rel[agent] = make([]uint64, len(worlds))
		for i, w := range worlds {
			part.Rel[agent][i] = indices(worlds, r[w])
		}
	}
	return part
}

// indices returns the set of the indices of those worlds of a list that are in a set.
func indices(worlds []int, s uint64) uint64 {
	var found uint64
	for i, w := range worlds {
		found |= s >> w & 1 << i
	}
	return found
}

// members returns the worlds of a set in ascending order.
func members(s uint64) []int {
	worlds := make([]int, 0, bits.OnesCount64(s))
	for ; s != 0; s &= s - 1 {
		worlds = append(worlds, bits.TrailingZeros64(s))
	}
	return worlds
}
