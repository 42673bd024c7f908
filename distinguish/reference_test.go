package distinguish_test

import (
	"slices"

	"witting/api"
)

// together returns, for each number of rounds until nothing changes any more, the worlds that are together with each world, by the definition of layer 19.
func together(m api.Model) [][]uint64 {
	rows := make([]uint64, m.Worlds)
	for v := range rows {
		for w := range m.Worlds {
			if agreeOnFacts(m, v, w) {
				rows[v] |= 1 << w
			}
		}
	}
	all := [][]uint64{rows}
	for {
		next := nextRound(rows, m.Rel)
		if slices.Equal(next, rows) {
			return all
		}
		all = append(all, next)
		rows = next
	}
}

// agreeOnFacts reports whether the same facts are true at two worlds.
func agreeOnFacts(m api.Model, v, w int) bool {
	for _, s := range m.Val {
		if has(s, v) != has(s, w) {
			return false
		}
	}
	return true
}

// nextRound returns the worlds that are together with each world after one more round.
func nextRound(rows []uint64, relations [][]uint64) []uint64 {
	next := make([]uint64, len(rows))
	for v := range rows {
		for w := range rows {
			if has(rows[v], w) && reachSame(rows, relations, v, w) {
				next[v] |= 1 << w
			}
		}
	}
	return next
}

// reachSame reports whether each relation leads from two worlds to the same blocks.
func reachSame(rows []uint64, relations [][]uint64, v, w int) bool {
	for _, r := range relations {
		for _, block := range rows {
			if (r[v]&block != 0) != (r[w]&block != 0) {
				return false
			}
		}
	}
	return true
}

// depthOf returns the least number of rounds after which two worlds are not together, or -1.
func depthOf(rounds [][]uint64, v, w int) int {
	for n, rows := range rounds {
		if !has(rows[v], w) {
			return n
		}
	}
	return -1
}

// alike returns for each world those that no formula of a modal depth of at most n, with Know and Poss, tells apart from it: at first those with the same facts, and then those that agree on all that is known of unions of the sets that formulas of the depth before describe.
func alike(m api.Model, n int) []uint64 {
	rows := apart(m.Worlds, m.Val)
	for range n {
		described := slices.Clone(m.Val)
		for choice := range uint64(1) << m.Worlds {
			union := unionOf(rows, choice)
			for _, r := range m.Rel {
				described = append(described, knownSet(r, union))
			}
		}
		rows = apart(m.Worlds, described)
	}
	return rows
}

// unionOf returns the union of the rows of some worlds.
func unionOf(rows []uint64, worlds uint64) uint64 {
	var union uint64
	for w, row := range rows {
		if has(worlds, w) {
			union |= row
		}
	}
	return union
}

// apart returns for each world those that no set of a list tells apart from it.
func apart(worlds int, sets []uint64) []uint64 {
	rows := make([]uint64, worlds)
	for v := range rows {
		rows[v] = worldsBelow(worlds)
		for _, s := range sets {
			if has(s, v) {
				rows[v] &= s
			} else {
				rows[v] &^= s
			}
		}
	}
	return rows
}

// knownSet returns the worlds all of whose successors are in a set.
func knownSet(r []uint64, s uint64) uint64 {
	var known uint64
	for w, successors := range r {
		if successors&^s == 0 {
			known |= 1 << w
		}
	}
	return known
}
