package bisim_test

import (
	"slices"

	"witting/api"
)

// agreeOnFacts reports whether the same facts are true at two worlds.
func agreeOnFacts(a api.Model, v int, b api.Model, w int) bool {
	for fact := range a.Val {
		if has(a.Val[fact], v) != has(b.Val[fact], w) {
			return false
		}
	}
	return true
}

// together returns, for each number of rounds until nothing changes any more, the worlds that are together with each world, by the chapter's definition.
func together(m api.Model, relations [][]uint64) [][]uint64 {
	rows := make([]uint64, m.Worlds)
	for v := range rows {
		for w := range m.Worlds {
			if agreeOnFacts(m, v, m, w) {
				rows[v] |= 1 << w
			}
		}
	}
	all := [][]uint64{rows}
	for {
		next := nextRound(rows, relations)
		if slices.Equal(next, rows) {
			return all
		}
		all = append(all, next)
		rows = next
	}
}

// nextRound returns the worlds that are together with each world after one more round.
func nextRound(rows []uint64, relations [][]uint64) []uint64 {
	next := make([]uint64, len(rows))
	for v := range rows {
		for w := range rows {
			if has(rows[v], w) && reachSame(rows, relations, v, w) {
				next[v] |= 1 << w
			}
		}
	}
	return next
}

// reachSame reports whether each relation leads from two worlds to the same blocks.
func reachSame(rows []uint64, relations [][]uint64, v, w int) bool {
	for _, r := range relations {
		for _, block := range rows {
			if (r[v]&block != 0) != (r[w]&block != 0) {
				return false
			}
		}
	}
	return true
}

// partitionOf returns for each world the lowest one that is together with it.
func partitionOf(rows []uint64) []int {
	p := make([]int, len(rows))
	for v, block := range rows {
		for !has(block, p[v]) {
			p[v]++
		}
	}
	return p
}

// withMeets returns the relations of the agents, and the intersection for each group.
func withMeets(m api.Model, groups []int) [][]uint64 {
	relations := slices.Clone(m.Rel)
	for _, group := range groups {
		meet := slices.Repeat([]uint64{worldsBelow(m.Worlds)}, m.Worlds)
		for a, r := range m.Rel {
			for w := range meet {
				if group>>a&1 == 1 {
					meet[w] &= r[w]
				}
			}
		}
		relations = append(relations, meet)
	}
	return relations
}

// definable returns the partition of the worlds by the sets that formulas of a modal depth of at most n can describe, with knowledge by each relation: at first by the facts, and then by what is known of unions of the blocks.
func definable(m api.Model, relations [][]uint64, n int) []int {
	described := slices.Clone(m.Val)
	for range n {
		blocks := partitionOf(apart(m.Worlds, described))
		for choice := range uint64(1) << m.Worlds {
			// A choice of lowest worlds stands for the union of their blocks.
			var union uint64
			for w, lowest := range blocks {
				union |= choice >> lowest & 1 << w
			}
			for _, r := range relations {
				described = append(described, knownSet(r, union))
			}
		}
		slices.Sort(described)
		described = slices.Compact(described)
	}
	return partitionOf(apart(m.Worlds, described))
}

// apart returns for each world those that no set of a list tells apart from it.
func apart(worlds int, sets []uint64) []uint64 {
	rows := make([]uint64, worlds)
	for v := range rows {
		rows[v] = worldsBelow(worlds)
		for _, s := range sets {
			if has(s, v) {
				rows[v] &= s
			} else {
				rows[v] &^= s
			}
		}
	}
	return rows
}

// knownSet returns the worlds all of whose successors are in a set.
func knownSet(r []uint64, s uint64) uint64 {
	var known uint64
	for w, successors := range r {
		if successors&^s == 0 {
			known |= 1 << w
		}
	}
	return known
}

// isBisimulation is the chapter's definition, world by world.
func isBisimulation(a, b api.Model, z []uint64) bool {
	for v := range a.Worlds {
		for w := range b.Worlds {
			if has(z[v], w) && !(agreeOnFacts(a, v, b, w) && isForth(a, v, b, w, z) && isBack(a, v, b, w, z)) {
				return false
			}
		}
	}
	return true
}

// isForth reports whether for each agent each successor of v is related to one of w.
func isForth(a api.Model, v int, b api.Model, w int, z []uint64) bool {
	for agent := range a.Rel {
		for x := range a.Worlds {
			found := false
			for y := range b.Worlds {
				found = found || has(b.Rel[agent][w], y) && has(z[x], y)
			}
			if has(a.Rel[agent][v], x) && !found {
				return false
			}
		}
	}
	return true
}

// isBack reports whether for each agent some successor of v is related to each one of w.
func isBack(a api.Model, v int, b api.Model, w int, z []uint64) bool {
	for agent := range a.Rel {
		for y := range b.Worlds {
			found := false
			for x := range a.Worlds {
				found = found || has(a.Rel[agent][v], x) && has(z[x], y)
			}
			if has(b.Rel[agent][w], y) && !found {
				return false
			}
		}
	}
	return true
}

// greatest returns the greatest bisimulation between two models: pairs are taken out one by one until it is one.
func greatest(a, b api.Model) []uint64 {
	z := slices.Repeat([]uint64{worldsBelow(b.Worlds)}, a.Worlds)
	for changed := true; changed; {
		changed = false
		for v := range z {
			for w := range b.Worlds {
				if has(z[v], w) && !(agreeOnFacts(a, v, b, w) && isForth(a, v, b, w, z) && isBack(a, v, b, w, z)) {
					z[v] &^= 1 << w
					changed = true
				}
			}
		}
	}
	return z
}

// relations returns all lists of so many sets of so many worlds.
func relations(sets, worlds int) [][]uint64 {
	l := [][]uint64{}
	for bits := range uint64(1) << (sets * worlds) {
		z := []uint64{}
		for i := range sets {
			z = append(z, bits>>(i*worlds)&worldsBelow(worlds))
		}
		l = append(l, z)
	}
	return l
}
