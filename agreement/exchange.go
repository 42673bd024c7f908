package agreement

import (
	"slices"

	"witting/api"
	"witting/partition"
)

// Announce lets an agent tell everybody its probability of an event: the error of Check, ErrRange.
func Announce(p api.Prior, agent int, event uint64) (api.Prior, int) {
	l, e := Posteriors(p, agent, event)
	if e != api.OK {
		return api.Prior{}, e
	}
	return divide(p, firstEqual(l)), api.OK
}

// Round lets all agents tell their probabilities of an event at once: the error of Check, ErrRange.
func Round(p api.Prior, event uint64) (api.Prior, int) {
	if e := checkEvent(p, event); e != api.OK {
		return api.Prior{}, e
	}
	return round(p, event), api.OK
}

// Exchange returns what the agents know after 0, 1, .. rounds, until nothing changes: the error of Check, ErrRange.
func Exchange(p api.Prior, event uint64) ([]api.Prior, int) {
	if e := checkEvent(p, event); e != api.OK {
		return nil, e
	}
	l := []api.Prior{clone(p)}
	for {
		last := l[len(l)-1]
		next := round(last, event)
		if slices.EqualFunc(last.Cells, next.Cells, slices.Equal[[]int]) {
			return l, api.OK
		}
		l = append(l, next)
	}
}

// round divides the cells of a valid prior by the posteriors of all agents.
func round(p api.Prior, event uint64) api.Prior {
	told := [][]int{}
	for agent := range p.Cells {
		told = append(told, firstEqual(posteriors(p, agent, event)))
	}
	return divide(p, told...)
}

// firstEqual returns for each fraction the index of the first one that equals it.
func firstEqual(l []api.Fraction) []int {
	keys := make([]int, len(l))
	for w, f := range l {
		keys[w] = slices.Index(l, f)
	}
	return keys
}

// divide returns the prior in which worlds of a cell stay together if their keys in each of some lists are equal.
func divide(p api.Prior, lists ...[]int) api.Prior {
	q := clone(p)
	for agent := range q.Cells {
		for _, keys := range lists {
			q.Cells[agent], _ = partition.Split(q.Cells[agent], keys)
		}
	}
	return q
}

// clone returns a copy that shares no memory with a prior.
func clone(p api.Prior) api.Prior {
	q := api.Prior{Weight: slices.Clone(p.Weight)}
	for _, cells := range p.Cells {
		q.Cells = append(q.Cells, slices.Clone(cells))
	}
	return q
}
