package isomorph_test

import (
	"math"
	"math/rand/v2"
	"slices"

	"witting/api"
)

// full is a variable so that shifts drop its upper bits, as those of computed sets.
var full uint64 = math.MaxUint64

func has(s uint64, w int) bool {
	return s>>w&1 == 1
}

// random returns a model with relations from sparse to dense, and often with many worlds that are alike.
func random(r *rand.Rand, worlds, facts, agents int) api.Model {
	set := func(density int) uint64 {
		s := full >> (64 - worlds)
		for range density {
			s &= r.Uint64()
		}
		return s
	}
	m := api.Model{Worlds: worlds}
	for range facts {
		m.Val = append(m.Val, set(r.IntN(4)))
	}
	for range agents {
		density := r.IntN(7)
		successors := make([]uint64, worlds)
		for w := range successors {
			successors[w] = set(density)
		}
		m.Rel = append(m.Rel, successors)
	}
	return m
}

// small returns all models with so many worlds, a fact and an agent.
func small(worlds int) []api.Model {
	l := []api.Model{}
	all := full >> (64 - worlds)
	for bits := range uint64(1) << (worlds * (worlds + 1)) {
		m := api.Model{Worlds: worlds, Val: []uint64{bits & all}, Rel: [][]uint64{{}}}
		for w := range worlds {
			m.Rel[0] = append(m.Rel[0], bits>>(worlds*(w+1))&all)
		}
		l = append(l, m)
	}
	return l
}

// graph returns a model without facts, in which an agent leads from each world w to those that steps lists for w.
func graph(worlds int, steps func(w int) []int) api.Model {
	m := api.Model{Worlds: worlds, Rel: [][]uint64{make([]uint64, worlds)}}
	for w := range worlds {
		for _, v := range steps(w) {
			m.Rel[0][w] |= 1 << v
		}
	}
	return m
}

// circulant returns a model in which each world w leads to w + s for each s in steps, round a circle.
func circulant(worlds int, steps ...int) api.Model {
	return graph(worlds, func(w int) []int {
		l := []int{}
		for _, s := range steps {
			l = append(l, (w+s)%worlds)
		}
		return l
	})
}

// rings returns circles of so many worlds each, in both directions or in one.
func rings(both bool, sizes ...int) api.Model {
	m := api.Model{Rel: [][]uint64{nil}}
	for _, size := range sizes {
		for w := range size {
			successors := uint64(1) << (m.Worlds + (w+1)%size)
			if both {
				successors |= 1 << (m.Worlds + (w+size-1)%size)
			}
			m.Rel[0] = append(m.Rel[0], successors)
		}
		m.Worlds += size
	}
	return m
}

// twice returns a model with a second agent, who has the converse relation of the first one.
func twice(m api.Model) api.Model {
	back := make([]uint64, m.Worlds)
	for w, s := range m.Rel[0] {
		for v := range m.Worlds {
			if has(s, v) {
				back[v] |= 1 << w
			}
		}
	}
	return api.Model{Worlds: m.Worlds, Val: m.Val, Rel: [][]uint64{m.Rel[0], back}}
}

// withFact returns a model with one more fact.
func withFact(m api.Model, s uint64) api.Model {
	return api.Model{Worlds: m.Worlds, Val: append(slices.Clone(m.Val), s), Rel: m.Rel}
}

// samples returns valid models: small ones, those at the limits, and random ones.
func samples() []api.Model {
	l := []api.Model{
		{Worlds: 1}, {Worlds: 64}, {Worlds: 3, Val: []uint64{5, 0}},
		{Worlds: 64, Val: slices.Repeat([]uint64{full}, 8), Rel: slices.Repeat([][]uint64{slices.Repeat([]uint64{full}, 64)}, 4)},
		circulant(3, 1), circulant(64, 1), circulant(64, 1, 63), circulant(12, 1, 3), withFact(circulant(3, 1), 2), withFact(circulant(64, 1), 1), withFact(circulant(64, 1, 63), 1<<40),
		graph(64, func(w int) []int { return []int{min(w+1, 63)} }), graph(64, func(w int) []int { return []int{w / 2} }),
		graph(5, func(w int) []int { return []int{0, w} }), rings(false, 3, 4), rings(true, 3, 4, 5), twice(rings(false, 6, 6)),
	}
	l = slices.Concat(l, small(1), small(2))
	r := rand.New(rand.NewPCG(16, 1))
	for _, worlds := range []int{2, 3, 4, 5, 7, 11, 12, 13, 33, 64} {
		for range 6 {
			l = append(l, random(r, worlds, r.IntN(3), r.IntN(5)))
		}
		l = append(l, random(r, worlds, 8, 4))
	}
	return l
}

// notValid returns models that are not valid, with their errors.
func notValid() map[int][]api.Model {
	return map[int][]api.Model{
		api.ErrRange: {
			{}, {Worlds: -1}, {Worlds: 65, Rel: [][]uint64{make([]uint64, 65)}}, {Worlds: math.MinInt}, {Worlds: math.MaxInt},
			{Worlds: 1, Val: []uint64{2}, Rel: [][]uint64{{1}}}, {Worlds: 2, Rel: [][]uint64{{3, 3}, {3, 7}}}, {Worlds: 13, Rel: [][]uint64{slices.Repeat([]uint64{1 << 13}, 13)}},
		},
		api.ErrLimit: {
			{Worlds: 1, Val: make([]uint64, 9)}, {Worlds: 1, Rel: slices.Repeat([][]uint64{{1}}, 5)},
		},
		api.ErrForm: {
			{Worlds: 1, Rel: [][]uint64{nil}}, {Worlds: 1, Rel: [][]uint64{{1, 1}}}, {Worlds: 2, Rel: [][]uint64{{3, 3}, {3}}}, {Worlds: 64, Rel: [][]uint64{{}}},
		},
	}
}

// each calls a function with each model that is not valid, and its error.
func each(f func(m api.Model, e int)) {
	for e, l := range notValid() {
		for _, m := range l {
			f(m, e)
		}
	}
}

// isZero reports whether a model is the zero value.
func isZero(m api.Model) bool {
	return m.Worlds == 0 && len(m.Val) == 0 && len(m.Rel) == 0
}

// isIsomorphism is the chapter's definition: by facts and pairs.
func isIsomorphism(a, b api.Model, to []int) bool {
	var images uint64
	for _, v := range to {
		if v < 0 || v >= b.Worlds || has(images, v) {
			return false
		}
		images |= 1 << v
	}
	if len(to) != a.Worlds || a.Worlds != b.Worlds || len(a.Val) != len(b.Val) || len(a.Rel) != len(b.Rel) {
		return false
	}
	for w, v := range to {
		for fact := range a.Val {
			if has(a.Val[fact], w) != has(b.Val[fact], v) {
				return false
			}
		}
		for agent := range a.Rel {
			for u, x := range to {
				if has(a.Rel[agent][w], u) != has(b.Rel[agent][v], x) {
					return false
				}
			}
		}
	}
	return true
}

// permutations returns all lists of the numbers below n.
func permutations(n int) [][]int {
	l := [][]int{{}}
	for i := range n {
		longer := [][]int{}
		for _, p := range l {
			for at := range i + 1 {
				longer = append(longer, slices.Insert(slices.Clone(p), at, i))
			}
		}
		l = longer
	}
	return l
}

// moved returns a model in which the world w has the number to[w].
func moved(m api.Model, to []int) api.Model {
	image := func(s uint64) uint64 {
		var moved uint64
		for w, v := range to {
			moved |= s >> w & 1 << v
		}
		return moved
	}
	c := api.Model{Worlds: m.Worlds}
	for _, s := range m.Val {
		c.Val = append(c.Val, image(s))
	}
	for _, r := range m.Rel {
		rows := make([]uint64, m.Worlds)
		for w, v := range to {
			rows[v] = image(r[w])
		}
		c.Rel = append(c.Rel, rows)
	}
	return c
}

// roots returns worlds of a model: all of them if there are few.
func roots(m api.Model) []int {
	l := []int{}
	for w := range m.Worlds {
		if m.Worlds < 33 || w%9 == 0 {
			l = append(l, w)
		}
	}
	return l
}
