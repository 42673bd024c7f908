package frames_test

import (
	"math"
	"math/rand/v2"
	"slices"

	"witting/api"
)

// full is a variable so that shifts drop its upper bits, as those of computed sets.
var full uint64 = math.MaxUint64

// propertiesOf is the chapter's table.
func propertiesOf() map[int][]int {
	return map[int][]int{
		api.LogicK:    {},
		api.LogicKD:   {api.PropSerial},
		api.LogicT:    {api.PropReflexive},
		api.LogicK4:   {api.PropTransitive},
		api.LogicS4:   {api.PropReflexive, api.PropTransitive},
		api.LogicKD45: {api.PropSerial, api.PropTransitive, api.PropEuclidean},
		api.LogicS5:   {api.PropReflexive, api.PropTransitive, api.PropEuclidean},
	}
}

// noLogics are numbers that are no logics.
func noLogics() []int {
	return []int{math.MinInt, -2, -1, 7, 8, 64, math.MaxInt}
}

// noProperties are numbers that are no properties.
func noProperties() []int {
	return []int{math.MinInt, -1, 0, 6, 7, 64, math.MaxInt}
}

// relations returns all relations over n points.
func relations(n int) [][]uint64 {
	l := [][]uint64{{}}
	for range n {
		longer := [][]uint64{}
		for _, r := range l {
			for row := range uint64(1) << n {
				longer = append(longer, append(slices.Clone(r), row))
			}
		}
		l = longer
	}
	return l
}

// small returns all relations over at most three points.
func small() [][]uint64 {
	return slices.Concat(relations(0), relations(1), relations(2), relations(3))
}

// random returns a relation from sparse (6) to full (0).
func random(r *rand.Rand, n, density int) []uint64 {
	l := make([]uint64, n)
	for w := range l {
		l[w] = full >> (64 - n)
		for range density {
			l[w] &= r.Uint64()
		}
	}
	return l
}

// blocks returns the equivalence whose blocks are the points with the same remainder.
func blocks(n, divisor int) []uint64 {
	l := make([]uint64, n)
	for w := range l {
		for v := w % divisor; v < n; v += divisor {
			l[w] |= 1 << v
		}
	}
	return l
}

// without returns a relation without a pair.
func without(r []uint64, w, v int) []uint64 {
	c := slices.Clone(r)
	c[w] &^= 1 << v
	return c
}

// large returns relations over up to 64 points: random ones, chains, rings, orders, and equivalences, some of them without a pair.
func large() [][]uint64 {
	r := rand.New(rand.NewPCG(15, 1))
	l := [][]uint64{}
	for _, n := range []int{4, 5, 8, 17, 33, 63, 64} {
		for density := range 7 {
			l = append(l, random(r, n, density))
		}
		chain, ring, order, strict := make([]uint64, n), make([]uint64, n), make([]uint64, n), make([]uint64, n)
		for w := range n {
			if w+1 < n {
				chain[w] = 1 << (w + 1)
			}
			ring[w] = 1 << ((w + 1) % n)
			order[w] = full >> (64 - n) &^ (1<<w - 1)
			strict[w] = order[w] &^ (1 << w)
		}
		same := slices.Repeat([]uint64{full >> (64 - n) &^ 3}, n)
		l = append(l, chain, ring, order, strict, same, blocks(n, 1), blocks(n, 3), blocks(n, n))
		last := n - 1
		l = append(l, without(order, last, last), without(order, 0, last), without(same, last, last), without(blocks(n, 3), last, last), without(blocks(n, 1), last, 0), without(blocks(n, n), last, last))
	}
	return l
}

// malformed contains lists that are no relations, with the errors of relation.Check.
func malformed() map[int][][]uint64 {
	late := make([]uint64, 63)
	late[62] = 1 << 63
	return map[int][][]uint64{
		api.ErrRange: {make([]uint64, 65), make([]uint64, 1000), slices.Repeat([]uint64{full}, 65)},
		api.ErrArg:   {{2}, {4, 0}, {3, 7}, {3, 3 | 1<<63}, {full, full, full}, late},
	}
}

// notValid returns models that are not valid, with their errors.
func notValid() map[int][]api.Model {
	return map[int][]api.Model{
		api.ErrRange: {
			{}, {Worlds: -1}, {Worlds: 65, Rel: [][]uint64{make([]uint64, 65)}}, {Worlds: math.MinInt}, {Worlds: math.MaxInt},
			{Worlds: 1, Val: []uint64{2}, Rel: [][]uint64{{1}}}, {Worlds: 2, Rel: [][]uint64{{3, 3}, {3, 7}}}, {Worlds: 2, Rel: [][]uint64{{3 | 1<<63, 3}}},
		},
		api.ErrLimit: {
			{Worlds: 1, Val: make([]uint64, 9)}, {Worlds: 1, Rel: slices.Repeat([][]uint64{{1}}, 5)},
		},
		api.ErrForm: {
			{Worlds: 1, Rel: [][]uint64{nil}}, {Worlds: 1, Rel: [][]uint64{{1, 1}}}, {Worlds: 2, Rel: [][]uint64{{3, 3}, {3}}},
		},
	}
}

// models returns valid models with several agents and facts, and models with each of the large relations.
func models() []api.Model {
	l := []api.Model{{Worlds: 1}, {Worlds: 64}, {Worlds: 2, Val: []uint64{1, 3}}, {Worlds: 3, Rel: [][]uint64{{2, 4, 0}}}}
	r := rand.New(rand.NewPCG(15, 2))
	for _, n := range []int{1, 2, 3, 4, 9, 64} {
		for range 8 {
			m := api.Model{Worlds: n}
			for range r.IntN(9) {
				m.Val = append(m.Val, random(r, n, 1)[0])
			}
			for range r.IntN(5) {
				m.Rel = append(m.Rel, random(r, n, r.IntN(7)))
			}
			l = append(l, m)
		}
	}
	for i, rel := range large() {
		m := api.Model{Worlds: len(rel), Rel: slices.Repeat([][]uint64{blocks(len(rel), 2)}, 4)}
		m.Rel[i%4] = rel
		l = append(l, m)
	}
	return l
}

// pair reports whether v is a successor of w.
func pair(r []uint64, w, v int) bool {
	return r[w]>>v&1 == 1
}

// lists returns all lists of worlds that show that a relation lacks a property, by the definitions of the chapter.
func lists(r []uint64, property int) [][]int {
	l := [][]int{}
	for w := range r {
		if property == api.PropSerial && r[w] == 0 || property == api.PropReflexive && !pair(r, w, w) {
			l = append(l, []int{w})
		}
		for v := range r {
			if !pair(r, w, v) {
				continue
			}
			if property == api.PropSymmetric && !pair(r, v, w) {
				l = append(l, []int{w, v})
			}
			for u := range r {
				if property == api.PropTransitive && pair(r, v, u) && !pair(r, w, u) {
					l = append(l, []int{w, v, u})
				}
				if property == api.PropEuclidean && pair(r, w, u) && !pair(r, u, v) {
					l = append(l, []int{w, u, v})
				}
			}
		}
	}
	return l
}

// least returns the lexicographically least list that shows that a relation lacks a property, or nil.
func least(r []uint64, property int) []int {
	l := lists(r, property)
	if len(l) == 0 {
		return nil
	}
	return slices.MinFunc(l, slices.Compare)
}

// satisfies reports whether a relation has the properties of a logic.
func satisfies(r []uint64, logic int) bool {
	for _, property := range propertiesOf()[logic] {
		if least(r, property) != nil {
			return false
		}
	}
	return true
}
