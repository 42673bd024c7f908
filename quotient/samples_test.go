package quotient_test

import (
	"math"
	"math/rand/v2"
	"slices"

	"witting/api"
)

// full is a variable so that shifts drop its upper bits, as those of computed sets.
var full uint64 = math.MaxUint64

func has(s uint64, w int) bool {
	return s>>w&1 == 1
}

// worldsBelow returns the set of the worlds below n.
func worldsBelow(n int) uint64 {
	return full >> (64 - n)
}

// random returns a model with relations from sparse to dense, and often with many worlds that are alike.
func random(r *rand.Rand, worlds, facts, agents int) api.Model {
	set := func(density int) uint64 {
		s := worldsBelow(worlds)
		for range density {
			s &= r.Uint64()
		}
		return s
	}
	m := api.Model{Worlds: worlds}
	for range facts {
		m.Val = append(m.Val, set(r.IntN(4)))
	}
	for range agents {
		density := r.IntN(7)
		successors := make([]uint64, worlds)
		for w := range successors {
			successors[w] = set(density)
		}
		m.Rel = append(m.Rel, successors)
	}
	return m
}

// small returns all models with so many worlds, a fact and an agent.
func small(worlds int) []api.Model {
	l := []api.Model{}
	for bits := range uint64(1) << (worlds * (worlds + 1)) {
		m := api.Model{Worlds: worlds, Val: []uint64{bits & worldsBelow(worlds)}, Rel: [][]uint64{{}}}
		for w := range worlds {
			m.Rel[0] = append(m.Rel[0], bits>>(worlds*(w+1))&worldsBelow(worlds))
		}
		l = append(l, m)
	}
	return l
}

// example is the model of the chapter's examples.
func example() api.Model {
	return api.Model{Worlds: 4, Val: []uint64{12}, Rel: [][]uint64{{4, 8, 4, 8}}}
}

// chain returns a model without facts in which each world leads to the next one, for one of the agents in turn, and the last one nowhere.
func chain(worlds, agents int) api.Model {
	m := api.Model{Worlds: worlds, Rel: make([][]uint64, agents)}
	for a := range m.Rel {
		m.Rel[a] = make([]uint64, worlds)
		for w := a; w+1 < worlds; w += agents {
			m.Rel[a][w] = 1 << (w + 1)
		}
	}
	return m
}

// circle returns a model in which each world leads to the next one and the last one to the first; a fact is true at the worlds of a set.
func circle(worlds int, fact uint64) api.Model {
	m := chain(worlds, 1)
	m.Rel[0][worlds-1] = 1
	m.Val = []uint64{fact}
	return m
}

// inflated returns a model with so many worlds, and a world of m for each: the two are bisimilar. All worlds of m occur if there are enough.
func inflated(r *rand.Rand, m api.Model, worlds int) (api.Model, []int) {
	of := make([]int, worlds)
	for w := range of {
		of[w] = r.IntN(m.Worlds)
		if w < m.Worlds {
			of[w] = w
		}
	}
	r.Shuffle(worlds, func(i, k int) { of[i], of[k] = of[k], of[i] })
	big := api.Model{Worlds: worlds}
	for _, s := range m.Val {
		big.Val = append(big.Val, copies(of, s))
	}
	for _, successors := range m.Rel {
		rows := make([]uint64, worlds)
		for w := range rows {
			for v := range m.Worlds {
				if has(successors[of[w]], v) {
					rows[w] |= someOf(r, copies(of, 1<<v))
				}
			}
		}
		big.Rel = append(big.Rel, rows)
	}
	return big, of
}

// copies returns the indices of the elements of a list that are in a set.
func copies(of []int, s uint64) uint64 {
	var found uint64
	for i, v := range of {
		found |= s >> v & 1 << i
	}
	return found
}

// someOf returns a part of a set, with one world at least if it has one.
func someOf(r *rand.Rand, s uint64) uint64 {
	part := s & r.Uint64() & r.Uint64()
	if part == 0 {
		return s & -s
	}
	return part
}

// samples returns valid models: small ones, those at the limits, and random ones.
func samples() []api.Model {
	l := []api.Model{
		{Worlds: 1}, {Worlds: 64}, {Worlds: 3, Val: []uint64{5, 0}},
		{Worlds: 64, Val: slices.Repeat([]uint64{full}, 8), Rel: slices.Repeat([][]uint64{slices.Repeat([]uint64{full}, 64)}, 4)},
		example(), chain(1, 1), chain(64, 1), chain(63, 2), chain(64, 4), circle(64, 1), circle(64, 1<<63), circle(64, 1<<31|1<<63), circle(63, 0),
	}
	l = slices.Concat(l, small(1), small(2))
	r := rand.New(rand.NewPCG(20, 1))
	for _, worlds := range []int{2, 3, 4, 5, 7, 12, 33, 63, 64} {
		for range 6 {
			l = append(l, random(r, worlds, r.IntN(3), r.IntN(5)))
			big, _ := inflated(r, random(r, 1+r.IntN(worlds), 1+r.IntN(2), 1+r.IntN(4)), worlds)
			l = append(l, big)
		}
		l = append(l, random(r, worlds, 8, 4))
	}
	return l
}

// notValid returns models that are not valid, with their errors.
func notValid() map[int][]api.Model {
	return map[int][]api.Model{
		api.ErrRange: {
			{}, {Worlds: -1}, {Worlds: 65, Rel: [][]uint64{make([]uint64, 65)}}, {Worlds: math.MinInt}, {Worlds: math.MaxInt},
			{Worlds: 1, Val: []uint64{2}, Rel: [][]uint64{{1}}}, {Worlds: 2, Rel: [][]uint64{{3, 3}, {3, 7}}}, {Worlds: 13, Rel: [][]uint64{slices.Repeat([]uint64{1 << 13}, 13)}},
		},
		api.ErrLimit: {
			{Worlds: 1, Val: make([]uint64, 9)}, {Worlds: 1, Rel: slices.Repeat([][]uint64{{1}}, 5)},
		},
		api.ErrForm: {
			{Worlds: 1, Rel: [][]uint64{nil}}, {Worlds: 1, Rel: [][]uint64{{1, 1}}}, {Worlds: 2, Rel: [][]uint64{{3, 3}, {3}}}, {Worlds: 64, Rel: [][]uint64{{}}},
		},
	}
}

// each calls a function with each model that is not valid, and its error.
func each(f func(m api.Model, e int)) {
	for e, l := range notValid() {
		for _, m := range l {
			f(m, e)
		}
	}
}

// isZero reports whether a model is the zero value.
func isZero(m api.Model) bool {
	return m.Worlds == 0 && len(m.Val) == 0 && len(m.Rel) == 0
}

// partitions returns all partitions of n points.
func partitions(n int) [][]int {
	l := [][]int{{}}
	for i := range n {
		longer := [][]int{}
		for _, p := range l {
			for lowest := range i + 1 {
				if lowest == i || p[lowest] == lowest {
					longer = append(longer, append(slices.Clone(p), lowest))
				}
			}
		}
		l = longer
	}
	return l
}

// outside returns numbers that are no worlds of a model with so many worlds.
func outside(worlds int) []int {
	return []int{math.MinInt, -1, worlds, worlds + 1, 64, 65, 1 << 32, math.MaxInt}
}
