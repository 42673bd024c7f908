package model_test

import (
	"math"
	"math/rand/v2"
	"slices"

	"witting/api"
)

// full is a variable so that shifts drop its upper bits, as those of computed sets.
var full uint64 = math.MaxUint64

// worldsBelow returns the set of the worlds below n.
func worldsBelow(n int) uint64 {
	return full >> (64 - n)
}

func has(s uint64, w int) bool {
	return s>>w&1 == 1
}

// random returns a model with relations from sparse to dense.
func random(r *rand.Rand, worlds, facts, agents int) api.Model {
	set := func(density int) uint64 {
		s := worldsBelow(worlds)
		for range density {
			s &= r.Uint64()
		}
		return s
	}
	m := api.Model{Worlds: worlds}
	for range facts {
		m.Val = append(m.Val, set(r.IntN(4)))
	}
	for range agents {
		density := r.IntN(7)
		successors := make([]uint64, worlds)
		for w := range successors {
			successors[w] = set(density)
		}
		m.Rel = append(m.Rel, successors)
	}
	return m
}

// small returns all models with so many worlds, a fact and an agent.
func small(worlds int) []api.Model {
	l := []api.Model{}
	for bits := range 1 << (worlds * (worlds + 1)) {
		m := api.Model{Worlds: worlds, Val: []uint64{uint64(bits) & worldsBelow(worlds)}, Rel: [][]uint64{{}}}
		for w := range worlds {
			m.Rel[0] = append(m.Rel[0], uint64(bits)>>(worlds*(w+1))&worldsBelow(worlds))
		}
		l = append(l, m)
	}
	return l
}

// example is the model of the chapter's examples.
func example() api.Model {
	return api.Model{Worlds: 3, Val: []uint64{3}, Rel: [][]uint64{{3, 3, 4}, {1, 6, 6}}}
}

// ring returns a model in which each world leads to the next one, the last one to the first, for one of the agents in turn.
func ring(worlds, agents int) api.Model {
	m := api.Model{Worlds: worlds, Rel: make([][]uint64, agents)}
	for a := range m.Rel {
		m.Rel[a] = make([]uint64, worlds)
		for w := a; w < worlds; w += agents {
			m.Rel[a][w] = 1 << ((w + 1) % worlds)
		}
	}
	return m
}

// samples returns valid models: small ones, those at the limits, and random ones.
func samples() []api.Model {
	l := []api.Model{
		{Worlds: 1},
		{Worlds: 64},
		{Worlds: 1, Val: []uint64{1, 0}},
		{Worlds: 64, Val: slices.Repeat([]uint64{full}, 8), Rel: slices.Repeat([][]uint64{slices.Repeat([]uint64{full}, 64)}, 4)},
		{Worlds: 3, Rel: [][]uint64{{2, 4, 1}}},
		example(), ring(64, 1), ring(64, 4), ring(63, 3), ring(5, 2),
	}
	l = slices.Concat(l, small(1), small(2))
	r := rand.New(rand.NewPCG(13, 1))
	for _, worlds := range []int{1, 2, 3, 4, 5, 8, 20, 31, 32, 33, 62, 63, 64} {
		for range 3 {
			l = append(l, random(r, worlds, r.IntN(9), r.IntN(5)))
		}
		l = append(l, random(r, worlds, 8, 4))
	}
	return l
}

// notValid returns models that are not valid, with their errors.
func notValid() map[int][]api.Model {
	rows := func(n int) []uint64 { return make([]uint64, n) }
	late := rows(63)
	late[62] = 1 << 63
	return map[int][]api.Model{
		api.ErrRange: {
			{}, {Worlds: -1}, {Worlds: 65}, {Worlds: math.MinInt}, {Worlds: math.MaxInt},
			{Worlds: 65, Val: rows(1), Rel: [][]uint64{rows(65)}},
			{Worlds: 0, Val: rows(9), Rel: make([][]uint64, 5)},
			{Worlds: -1, Val: []uint64{1}, Rel: [][]uint64{{1}}},
			{Worlds: 65, Val: rows(9), Rel: make([][]uint64, 5)},
			{Worlds: 1, Val: []uint64{2}},
			{Worlds: 1, Val: []uint64{1, 1, 1 << 63}},
			{Worlds: 63, Val: []uint64{1 << 63}},
			{Worlds: 63, Rel: [][]uint64{late}},
			{Worlds: 63, Rel: [][]uint64{rows(63), rows(63), late}},
			{Worlds: 2, Rel: [][]uint64{{4, 0}}},
			{Worlds: 2, Rel: [][]uint64{{3, 3}, {3, full}}},
			{Worlds: 2, Val: []uint64{4}, Rel: [][]uint64{{3, 4}}},
		},
		api.ErrLimit: {
			{Worlds: 1, Val: rows(9)},
			{Worlds: 1, Rel: slices.Repeat([][]uint64{{0}}, 5)},
			{Worlds: 1, Val: rows(1000), Rel: make([][]uint64, 1000)},
			{Worlds: 1, Val: slices.Repeat([]uint64{2}, 9)},
			{Worlds: 64, Rel: make([][]uint64, 5)},
			{Worlds: 1, Rel: slices.Repeat([][]uint64{{2}}, 5)},
			{Worlds: 1, Val: []uint64{2}, Rel: make([][]uint64, 5)},
			{Worlds: 1, Val: rows(9), Rel: [][]uint64{{2, 2}}},
		},
		api.ErrForm: {
			{Worlds: 1, Rel: [][]uint64{nil}},
			{Worlds: 1, Rel: [][]uint64{{}}},
			{Worlds: 1, Rel: [][]uint64{{1, 0}}},
			{Worlds: 2, Rel: [][]uint64{{3, 3}, {3}}},
			{Worlds: 2, Rel: [][]uint64{{3, 3}, {3, 3}, {3, 3}, {3, 3, 3}}},
			{Worlds: 64, Rel: [][]uint64{rows(65)}},
			{Worlds: 64, Rel: [][]uint64{rows(63)}},
			{Worlds: 1, Val: []uint64{2}, Rel: [][]uint64{{}}},
			{Worlds: 2, Rel: [][]uint64{{4, 4}, {0}}},
			{Worlds: 2, Rel: [][]uint64{{0}, {4, 4}}},
		},
	}
}

// each calls a function with each model that is not valid, and its error.
func each(f func(m api.Model, e int)) {
	for e, l := range notValid() {
		for _, m := range l {
			f(m, e)
		}
	}
}

// clone returns a copy of a model.
func clone(m api.Model) api.Model {
	c := api.Model{Worlds: m.Worlds, Val: slices.Clone(m.Val)}
	for _, r := range m.Rel {
		c.Rel = append(c.Rel, slices.Clone(r))
	}
	return c
}

// isZero reports whether a model is the zero value.
func isZero(m api.Model) bool {
	return m.Worlds == 0 && len(m.Val) == 0 && len(m.Rel) == 0
}

// sets returns sets of worlds of a model: all of them if there are few.
func sets(r *rand.Rand, worlds int) []uint64 {
	l := []uint64{}
	if worlds <= 3 {
		for s := range uint64(1) << worlds {
			l = append(l, s)
		}
		return l
	}
	all := worldsBelow(worlds)
	l = append(l, 0, 1, 1<<(worlds-1), all, all&^1, all>>1)
	for range 5 {
		l = append(l, all&r.Uint64(), all&r.Uint64()&r.Uint64()&r.Uint64())
	}
	return l
}

// outside returns sets with a world that a model with so many worlds does not have.
func outside(worlds int) []uint64 {
	if worlds == 64 {
		return nil
	}
	return []uint64{1 << worlds, 1 << 63, full, full << worlds, 1 | 1<<worlds}
}
