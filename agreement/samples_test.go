package agreement_test

import (
	"math"
	"math/rand/v2"
	"slices"

	"witting/api"
)

// full is a variable so that shifts drop its upper bits, as those of computed sets.
var full uint64 = math.MaxUint64

func has(s uint64, w int) bool {
	return s>>w&1 == 1
}

// worldsBelow returns the set of the worlds below n.
func worldsBelow(n int) uint64 {
	return full >> (64 - n)
}

// setOf returns the set of some worlds.
func setOf(worlds ...int) uint64 {
	var s uint64
	for _, w := range worlds {
		s |= 1 << w
	}
	return s
}

// equalWeights returns so many weights of 1.
func equalWeights(worlds int) []int {
	return slices.Repeat([]int{1}, worlds)
}

// example is the prior of the chapter's example, and exampleEvent its event.
func example() api.Prior {
	return api.Prior{Weight: equalWeights(9), Cells: [][]int{{0, 0, 0, 3, 3, 3, 6, 6, 6}, {0, 0, 0, 0, 4, 4, 4, 4, 8}}}
}

func exampleEvent() uint64 {
	return setOf(2, 3, 8)
}

// partitions returns all partitions of n points.
func partitions(n int) [][]int {
	l := [][]int{{}}
	for i := range n {
		longer := [][]int{}
		for _, p := range l {
			for lowest := range i + 1 {
				if lowest == i || p[lowest] == lowest {
					longer = append(longer, append(slices.Clone(p), lowest))
				}
			}
		}
		l = longer
	}
	return l
}

// randomCells returns a partition with about so many blocks.
func randomCells(r *rand.Rand, worlds, blocks int) []int {
	cells, first := make([]int, worlds), map[int]int{}
	for w := range cells {
		block := r.IntN(blocks)
		if _, found := first[block]; !found {
			first[block] = w
		}
		cells[w] = first[block]
	}
	return cells
}

// randomPrior returns a prior with weights up to a number.
func randomPrior(r *rand.Rand, worlds, agents, most int) api.Prior {
	p := api.Prior{}
	for range worlds {
		p.Weight = append(p.Weight, 1+r.IntN(most))
	}
	for range agents {
		p.Cells = append(p.Cells, randomCells(r, worlds, 1+r.IntN(worlds)))
	}
	return p
}

// small returns priors with all pairs of partitions of so many worlds.
func small(r *rand.Rand, worlds int) []api.Prior {
	l := []api.Prior{}
	for _, a := range partitions(worlds) {
		for _, b := range partitions(worlds) {
			p := randomPrior(r, worlds, 0, 3)
			p.Cells = [][]int{a, b}
			l = append(l, p, api.Prior{Weight: equalWeights(worlds), Cells: [][]int{a, b}})
		}
	}
	return l
}

// staircase returns a prior of two agents with cells of two worlds each, which overlap.
func staircase(worlds int) api.Prior {
	p := api.Prior{Weight: equalWeights(worlds), Cells: make([][]int, 2)}
	for w := range worlds {
		p.Cells[0] = append(p.Cells[0], w/2*2)
		p.Cells[1] = append(p.Cells[1], max(0, (w+1)/2*2-1))
	}
	return p
}

// samples returns valid priors: those at the limits, and random ones.
func samples() []api.Prior {
	worlds := make([]int, 64)
	for w := range worlds {
		worlds[w] = w
	}
	l := []api.Prior{
		example(), {Weight: []int{1}}, {Weight: []int{1000}, Cells: [][]int{{0}}}, {Weight: equalWeights(64)}, {Weight: []int{3, 2, 1}},
		{Weight: slices.Repeat([]int{1000}, 64), Cells: [][]int{make([]int, 64), worlds, make([]int, 64), worlds}},
		{Weight: slices.Repeat([]int{999, 1000}, 32), Cells: [][]int{make([]int, 64)}},
		staircase(1), staircase(2), staircase(7), staircase(63), staircase(64),
	}
	r := rand.New(rand.NewPCG(24, 1))
	for _, n := range []int{1, 2, 3, 4, 5, 9, 16, 40, 63, 64} {
		for _, most := range []int{1, 2, 5, 1000} {
			for agents := range 5 {
				l = append(l, randomPrior(r, n, agents, most))
			}
		}
		few := randomPrior(r, n, 0, 1)
		for range 3 {
			few.Cells = append(few.Cells, randomCells(r, n, min(3, n)))
		}
		l = append(l, few)
	}
	return l
}

// events returns events of a prior: none, all, some worlds.
func events(r *rand.Rand, p api.Prior) []uint64 {
	all := worldsBelow(len(p.Weight))
	return []uint64{0, all, 1, 1 << (len(p.Weight) - 1), all & r.Uint64(), all & r.Uint64() & r.Uint64(), all &^ (r.Uint64() & r.Uint64() & r.Uint64())}
}

// notValid returns priors that are not valid, with their errors; many of them have a later error, too.
func notValid() map[int][]api.Prior {
	five := slices.Repeat([][]int{{0, 0}}, 5)
	return map[int][]api.Prior{
		api.ErrRange: {
			{}, {Weight: []int{}, Cells: five}, {Weight: equalWeights(65)}, {Weight: equalWeights(65), Cells: [][]int{make([]int, 65)}}, {Weight: make([]int, 65), Cells: five}, {Weight: make([]int, 1000)},
			{Weight: []int{0}}, {Weight: []int{1, 0}, Cells: five[:4]}, {Weight: []int{1, -1, 1}}, {Weight: []int{1, 1001}}, {Weight: []int{math.MinInt}}, {Weight: []int{1, math.MaxInt}, Cells: five[:1]},
			{Weight: []int{1, 1001}, Cells: [][]int{{0}}}, {Weight: append(equalWeights(63), 0), Cells: [][]int{nil}}, {Weight: []int{-1000, 1}, Cells: [][]int{{0, 2}}},
		},
		api.ErrLimit: {
			{Weight: []int{1, 1}, Cells: five}, {Weight: []int{1, 0}, Cells: five}, {Weight: []int{1, 1}, Cells: append(five, []int{7})}, {Weight: []int{1001}, Cells: make([][]int, 5)}, {Weight: equalWeights(64), Cells: make([][]int, 100)},
		},
		api.ErrForm: {
			{Weight: []int{1, 1}, Cells: [][]int{nil}}, {Weight: []int{1, 1}, Cells: [][]int{{0}}}, {Weight: []int{1, 1}, Cells: [][]int{{0, 0, 0}}}, {Weight: []int{1, 1}, Cells: [][]int{{0, 0}, {0, 2}}},
			{Weight: []int{1, 1, 1}, Cells: [][]int{{0, 0, 1}}}, {Weight: []int{1, 1, 1}, Cells: [][]int{{0, 0, 0}, {0, 1, 2}, {1, 1, 2}}}, {Weight: []int{1, 1}, Cells: [][]int{{0, -1}}}, {Weight: []int{1}, Cells: [][]int{{math.MinInt}}}, {Weight: []int{1, 1}, Cells: [][]int{{0, math.MaxInt}}},
			{Weight: equalWeights(64), Cells: [][]int{make([]int, 65)}}, {Weight: equalWeights(64), Cells: [][]int{make([]int, 63)}}, {Weight: []int{1}, Cells: [][]int{make([]int, 1000)}}, {Weight: []int{1}, Cells: [][]int{{0}, {0}, {0}, {}}},
		},
	}
}

// each calls a function with each prior that is not valid, and its error.
func each(f func(p api.Prior, e int)) {
	for e, l := range notValid() {
		for _, p := range l {
			f(p, e)
		}
	}
}

// outside returns numbers that are not from 0 to n - 1.
func outside(n int) []int {
	return []int{math.MinInt, -1, n, n + 1, 64, 65, 1 << 32, math.MaxInt}
}

// beyond returns events with a world that a prior with fewer than 64 worlds does not have.
func beyond(worlds int) []uint64 {
	return []uint64{1 << worlds, worldsBelow(worlds+1) &^ 1, 1 << 63, full, 1<<63 | 1}
}

// samePrior reports whether all fields are equal.
func samePrior(a, b api.Prior) bool {
	return slices.Equal(a.Weight, b.Weight) && slices.EqualFunc(a.Cells, b.Cells, slices.Equal[[]int])
}

// isZero reports whether a prior is the zero value.
func isZero(p api.Prior) bool {
	return len(p.Weight) == 0 && len(p.Cells) == 0
}
