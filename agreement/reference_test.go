package agreement_test

import (
	"math/big"
	"slices"

	"witting/api"
)

// probability is the chapter's definition of a posterior, world by world.
func probability(p api.Prior, agent, world int, event uint64) *big.Rat {
	inEvent, inCell := int64(0), int64(0)
	for v, weight := range p.Weight {
		if p.Cells[agent][v] == p.Cells[agent][world] {
			inCell += int64(weight)
			if has(event, v) {
				inEvent += int64(weight)
			}
		}
	}
	return big.NewRat(inEvent, inCell)
}

// isFraction reports whether a fraction is a number in lowest terms. (big.Rat has these terms, and 0 is 0/1.)
func isFraction(f api.Fraction, want *big.Rat) bool {
	return want.Num().Cmp(big.NewInt(int64(f.Num))) == 0 && want.Denom().Cmp(big.NewInt(int64(f.Den))) == 0
}

// divided returns the prior in which two worlds of a cell stay together if some agents have equal posteriors at both.
func divided(p api.Prior, agents []int, event uint64) api.Prior {
	told := make([][]*big.Rat, len(p.Weight))
	for w := range told {
		for _, agent := range agents {
			told[w] = append(told[w], probability(p, agent, w, event))
		}
	}
	equal := func(v, w int) bool {
		return slices.EqualFunc(told[v], told[w], func(a, b *big.Rat) bool { return a.Cmp(b) == 0 })
	}
	q := api.Prior{Weight: p.Weight}
	for _, cells := range p.Cells {
		l := make([]int, len(cells))
		for w := range cells {
			for cells[l[w]] != cells[w] || !equal(l[w], w) {
				l[w]++
			}
		}
		q.Cells = append(q.Cells, l)
	}
	return q
}

// all returns the agents of a prior.
func all(p api.Prior) []int {
	l := []int{}
	for agent := range p.Cells {
		l = append(l, agent)
	}
	return l
}

// reachable returns the worlds to which steps within cells of any agents lead from a world.
func reachable(p api.Prior, world int) uint64 {
	l := []int{world}
	for i := 0; i < len(l); i++ {
		for _, cells := range p.Cells {
			for v := range cells {
				if cells[v] == cells[l[i]] && !slices.Contains(l, v) {
					l = append(l, v)
				}
			}
		}
	}
	return setOf(l...)
}

// cellOf returns the cell of an agent at a world.
func cellOf(p api.Prior, agent, world int) uint64 {
	var s uint64
	for v, lowest := range p.Cells[agent] {
		if lowest == p.Cells[agent][world] {
			s |= 1 << v
		}
	}
	return s
}
