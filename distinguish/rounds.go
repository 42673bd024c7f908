package distinguish

import (
	"slices"

	"witting/api"
	"witting/bisim"
)

// digits is the number of facts that number all blocks: there are 2^6 = api.MaxWorlds numbers.
const digits = 6

// rounds returns the partitions of the worlds of a valid model after 0 rounds, after one round and so on; the last one is the first that a further round does not change.
func rounds(m api.Model) [][]int {
	p, _ := bisim.Rounds(m, 0)
	l := [][]int{p}
	for {
		next, _ := bisim.Rounds(numbered(m, p), 1)
		if slices.Equal(next, p) {
			return l
		}
		l = append(l, next)
		p = next
	}
}

// numbered returns a valid model with facts that say in which block a world is. One round in it is the next round in m, so that the rounds before that need not be gone through again.
func numbered(m api.Model, p []int) api.Model {
	facts := make([]uint64, digits)
	for w, lowest := range p {
		for i := range facts {
			facts[i] |= uint64(lowest>>i&1) << w
		}
	}
	return api.Model{Worlds: m.Worlds, Val: facts, Rel: m.Rel}
}

// firstApart returns the number of rounds after which two worlds are not together for the first time, or -1 if they are bisimilar.
func firstApart(rounds [][]int, v, w int) int {
	return slices.IndexFunc(rounds, func(p []int) bool { return p[v] != p[w] })
}
