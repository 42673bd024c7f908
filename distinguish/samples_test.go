package distinguish_test

import (
	"math"
	"math/rand/v2"
	"slices"

	"witting/api"
)

// full is a variable so that shifts drop its upper bits, as those of computed sets.
var full uint64 = math.MaxUint64

func has(s uint64, w int) bool {
	return s>>w&1 == 1
}

// worldsBelow returns the set of the worlds below n.
func worldsBelow(n int) uint64 {
	return full >> (64 - n)
}

// random returns a model with relations from sparse to dense, and often with many worlds that are alike.
func random(r *rand.Rand, worlds, facts, agents int) api.Model {
	set := func(density int) uint64 {
		s := worldsBelow(worlds)
		for range density {
			s &= r.Uint64()
		}
		return s
	}
	m := api.Model{Worlds: worlds}
	for range facts {
		m.Val = append(m.Val, set(r.IntN(4)))
	}
	for range agents {
		density := r.IntN(7)
		successors := make([]uint64, worlds)
		for w := range successors {
			successors[w] = set(density)
		}
		m.Rel = append(m.Rel, successors)
	}
	return m
}

// small returns all models with so many worlds, a fact and an agent.
func small(worlds int) []api.Model {
	l := []api.Model{}
	for bits := range uint64(1) << (worlds * (worlds + 1)) {
		m := api.Model{Worlds: worlds, Val: []uint64{bits & worldsBelow(worlds)}, Rel: [][]uint64{{}}}
		for w := range worlds {
			m.Rel[0] = append(m.Rel[0], bits>>(worlds*(w+1))&worldsBelow(worlds))
		}
		l = append(l, m)
	}
	return l
}

// example is the model of the chapter's example.
func example() api.Model {
	return api.Model{Worlds: 3, Val: []uint64{4}, Rel: [][]uint64{{2, 4, 4}}}
}

// chain returns a model without facts in which each world leads to the next one, for one of the agents in turn, and the last one nowhere.
func chain(worlds, agents int) api.Model {
	m := api.Model{Worlds: worlds, Rel: make([][]uint64, agents)}
	for a := range m.Rel {
		m.Rel[a] = make([]uint64, worlds)
		for w := a; w+1 < worlds; w += agents {
			m.Rel[a][w] = 1 << (w + 1)
		}
	}
	return m
}

// circle returns a model in which each world leads to the next one and the last one to the first; a fact is true at the worlds of a set.
func circle(worlds int, fact uint64) api.Model {
	m := chain(worlds, 1)
	m.Rel[0][worlds-1] = 1
	m.Val = []uint64{fact}
	return m
}

// ladder returns a model that needs long formulas. Each world leads to all lower ones but the next one below, to the third world from the top, and to the two at the top, which lead to every other world; a fact is true at the lowest world, and one at each of the two.
func ladder(worlds int) api.Model {
	top := worlds - 2
	m := api.Model{Worlds: worlds, Val: []uint64{1, 1 << top, 2 << top}, Rel: [][]uint64{make([]uint64, worlds)}}
	for w := range top {
		m.Rel[0][w] = 7<<(top-1) | worldsBelow(w+1)>>2
		m.Rel[0][top+w%2] |= 1 << w
	}
	return m
}

// wide returns a chain with a fact at its end, whose worlds also lead to three worlds with facts of their own, which lead everywhere; and a world that leads everywhere but to the first world of the chain.
func wide(worlds int) api.Model {
	m := chain(worlds, 1)
	m.Val = []uint64{1, 2, 4, 1 << (worlds - 2)}
	for w := range worlds {
		m.Rel[0][w] |= 7
		if w < 3 {
			m.Rel[0][w] = worldsBelow(worlds)
		}
	}
	m.Rel[0][worlds-2] = 7
	m.Rel[0][worlds-1] = worldsBelow(worlds) &^ 8
	return m
}

// knowledge returns a random model whose relations are equivalences.
func knowledge(r *rand.Rand, worlds, facts, agents int) api.Model {
	m := random(r, worlds, facts, 0)
	for range agents {
		cells := make([]int, worlds)
		count := 1 + r.IntN(worlds)
		for w := range cells {
			cells[w] = r.IntN(count)
		}
		successors := make([]uint64, worlds)
		for v := range cells {
			for w := range cells {
				if cells[v] == cells[w] {
					successors[v] |= 1 << w
				}
			}
		}
		m.Rel = append(m.Rel, successors)
	}
	return m
}

// samples returns valid models: small ones, those at the limits, and random ones.
func samples() []api.Model {
	l := []api.Model{
		{Worlds: 1}, {Worlds: 64}, {Worlds: 3, Val: []uint64{5, 0}},
		{Worlds: 64, Val: slices.Repeat([]uint64{full}, 8), Rel: slices.Repeat([][]uint64{slices.Repeat([]uint64{full}, 64)}, 4)},
		{Worlds: 8, Val: []uint64{1, 2, 4, 8, 16, 32, 64, 128}}, {Worlds: 2, Rel: [][]uint64{{0, 0}, {3, 3}, {1, 2}, {0, 2}}},
		example(), chain(1, 1), chain(64, 1), chain(63, 2), chain(64, 4), circle(64, 1), circle(64, 1<<63), circle(64, 1<<31|1<<63), circle(63, 0),
		ladder(12), ladder(30), wide(12), wide(40),
	}
	l = slices.Concat(l, small(1), small(2))
	r := rand.New(rand.NewPCG(21, 1))
	for _, worlds := range []int{2, 3, 4, 5, 6, 7, 12, 33, 63, 64} {
		for range 6 {
			l = append(l, random(r, worlds, r.IntN(3), r.IntN(5)), knowledge(r, worlds, r.IntN(3), r.IntN(5)))
		}
		l = append(l, random(r, worlds, 8, 4))
	}
	return l
}

// pairs returns pairs of worlds of a model: all of them if there are few.
func pairs(r *rand.Rand, worlds int) [][2]int {
	l := [][2]int{}
	if worlds <= 8 {
		for v := range worlds {
			for w := range worlds {
				l = append(l, [2]int{v, w})
			}
		}
		return l
	}
	l = append(l, [2]int{0, 1}, [2]int{1, 0}, [2]int{0, worlds - 1}, [2]int{worlds - 1, 0}, [2]int{worlds - 1, worlds - 2}, [2]int{worlds - 2, worlds - 1}, [2]int{3, 3})
	for range 12 {
		l = append(l, [2]int{r.IntN(worlds), r.IntN(worlds)})
	}
	return l
}

// outside returns numbers that are no worlds of a model with so many worlds.
func outside(worlds int) []int {
	return []int{-1, worlds, worlds + 1, 64, -64, math.MinInt, math.MaxInt}
}

// notValid returns models that are not valid, with their errors.
func notValid() map[int][]api.Model {
	return map[int][]api.Model{
		api.ErrRange: {
			{}, {Worlds: -1}, {Worlds: 65, Rel: [][]uint64{make([]uint64, 65)}}, {Worlds: math.MinInt}, {Worlds: math.MaxInt},
			{Worlds: 1, Val: []uint64{2}, Rel: [][]uint64{{1}}}, {Worlds: 2, Rel: [][]uint64{{3, 3}, {3, 7}}}, {Worlds: 13, Rel: [][]uint64{slices.Repeat([]uint64{1 << 13}, 13)}},
		},
		api.ErrLimit: {
			{Worlds: 1, Val: make([]uint64, 9)}, {Worlds: 1, Rel: slices.Repeat([][]uint64{{1}}, 5)},
		},
		api.ErrForm: {
			{Worlds: 1, Rel: [][]uint64{nil}}, {Worlds: 1, Rel: [][]uint64{{1, 1}}}, {Worlds: 2, Rel: [][]uint64{{3, 3}, {3}}}, {Worlds: 64, Rel: [][]uint64{{}}},
		},
	}
}

// each calls a function with each model that is not valid, and its error.
func each(f func(m api.Model, e int)) {
	for e, l := range notValid() {
		for _, m := range l {
			f(m, e)
		}
	}
}
