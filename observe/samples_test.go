package observe_test

import (
	"math"
	"math/rand/v2"
	"slices"

	"witting/api"
	"witting/formula"
)

// full is a variable so that shifts drop its upper bits, as those of computed sets.
var full uint64 = math.MaxUint64

func has(s uint64, w int) bool {
	return s>>w&1 == 1
}

// worldsBelow returns the set of the worlds below n.
func worldsBelow(n int) uint64 {
	return full >> (64 - n)
}

// fact returns the formula of a fact.
func fact(i int) []api.Node {
	return formula.Fact(i)
}

// exampleLaw is the law of the chapter's example, and exampleSeen is what its agents observe.
func exampleLaw() []api.Node {
	return formula.Or(fact(0), fact(1))
}

func exampleSeen() [][][]api.Node {
	return [][][]api.Node{{fact(0)}, {fact(1)}}
}

// example is the model of the chapter's example.
func example() api.Model {
	return api.Model{Worlds: 3, Val: []uint64{5, 6}, Rel: [][]uint64{{5, 2, 5}, {1, 6, 6}}}
}

// propositional returns a propositional formula of n facts.
func propositional(r *rand.Rand, height, n int) []api.Node {
	if height == 0 || r.IntN(8) == 0 {
		if n == 0 || r.IntN(10) == 0 {
			return [][]api.Node{formula.True(), formula.False()}[r.IntN(2)]
		}
		return fact(r.IntN(n))
	}
	f := propositional(r, height-1, n)
	if r.IntN(5) == 0 {
		return formula.Not(f)
	}
	g := propositional(r, height-1, n)
	switch r.IntN(4) {
	case 0:
		return formula.And(f, g)
	case 1:
		return formula.Or(f, g)
	case 2:
		return formula.Imp(f, g)
	}
	return formula.Iff(f, g)
}

// static returns a formula of the static language that fits so many agents and facts.
func static(r *rand.Rand, height, agents, facts int) []api.Node {
	if height == 0 || agents == 0 {
		return propositional(r, 2, facts)
	}
	f := static(r, height-1, agents, facts)
	group := 1 + r.IntN(1<<agents-1)
	switch r.IntN(8) {
	case 0:
		return formula.Not(f)
	case 1:
		return formula.Imp(f, static(r, height-1, agents, facts))
	case 2:
		return formula.Every(group, f)
	case 3:
		return formula.Dist(group, f)
	case 4:
		return formula.Common(group, static(r, height-1, agents, facts), f)
	case 5:
		return formula.Poss(r.IntN(agents), f)
	}
	return formula.Know(r.IntN(agents), f)
}

// trueAt reports whether a propositional formula is true at a valuation.
func trueAt(f []api.Node, v int) bool {
	truths := make([]bool, len(f))
	for i, n := range f {
		switch n.Op {
		case api.OpTrue:
			truths[i] = true
		case api.OpFact:
			truths[i] = v>>n.I&1 == 1
		case api.OpNot:
			truths[i] = !truths[n.X]
		case api.OpAnd:
			truths[i] = truths[n.X] && truths[n.Y]
		case api.OpOr:
			truths[i] = truths[n.X] || truths[n.Y]
		case api.OpImp:
			truths[i] = !truths[n.X] || truths[n.Y]
		case api.OpIff:
			truths[i] = truths[n.X] == truths[n.Y]
		}
	}
	return truths[len(f)-1]
}

// random returns a model with relations from sparse to dense.
func random(r *rand.Rand, worlds, facts, agents int) api.Model {
	set := func(density int) uint64 {
		s := worldsBelow(worlds)
		for range density {
			s &= r.Uint64()
		}
		return s
	}
	m := api.Model{Worlds: worlds}
	for range facts {
		m.Val = append(m.Val, set(r.IntN(4)))
	}
	for range agents {
		density := r.IntN(5)
		successors := make([]uint64, worlds)
		for w := range successors {
			successors[w] = set(density)
		}
		m.Rel = append(m.Rel, successors)
	}
	return m
}

// small returns all models with so many worlds, a fact and an agent.
func small(worlds int) []api.Model {
	l := []api.Model{}
	for bits := range uint64(1) << (worlds * (worlds + 1)) {
		m := api.Model{Worlds: worlds, Val: []uint64{bits & worldsBelow(worlds)}, Rel: [][]uint64{{}}}
		for w := range worlds {
			m.Rel[0] = append(m.Rel[0], bits>>(worlds*(w+1))&worldsBelow(worlds))
		}
		l = append(l, m)
	}
	return l
}

// partitioned returns a random model whose relations are equivalences.
func partitioned(r *rand.Rand, worlds, facts, agents int) api.Model {
	m := random(r, worlds, facts, 0)
	for range agents {
		cells := make([]int, worlds)
		count := 1 + r.IntN(worlds)
		for w := range cells {
			cells[w] = r.IntN(count)
		}
		successors := make([]uint64, worlds)
		for v := range cells {
			for w := range cells {
				if cells[v] == cells[w] {
					successors[v] |= 1 << w
				}
			}
		}
		m.Rel = append(m.Rel, successors)
	}
	return m
}

// samples returns valid models: small ones, those at the limits, and random ones.
func samples() []api.Model {
	all := slices.Repeat([]uint64{full}, 64)
	l := []api.Model{
		{Worlds: 1}, {Worlds: 64}, {Worlds: 3, Val: []uint64{5, 0}}, {Worlds: 2, Rel: [][]uint64{{0, 0}, {3, 3}, {1, 2}, {0, 2}}},
		{Worlds: 64, Val: all[:8], Rel: [][]uint64{all, all, all, all}}, example(),
	}
	l = slices.Concat(l, small(1), small(2))
	r := rand.New(rand.NewPCG(22, 1))
	for _, worlds := range []int{2, 3, 5, 8, 21, 63, 64} {
		for range 5 {
			l = append(l, random(r, worlds, r.IntN(4), r.IntN(5)), partitioned(r, worlds, r.IntN(4), r.IntN(5)))
		}
		l = append(l, random(r, worlds, 8, 4))
	}
	return l
}

// notValid returns models that are not valid, with their errors.
func notValid() map[int][]api.Model {
	return map[int][]api.Model{
		api.ErrRange: {
			{}, {Worlds: -1}, {Worlds: 65, Rel: [][]uint64{make([]uint64, 65)}}, {Worlds: math.MinInt}, {Worlds: math.MaxInt},
			{Worlds: 1, Val: []uint64{2}, Rel: [][]uint64{{1}}}, {Worlds: 2, Rel: [][]uint64{{3, 3}, {3, 7}}}, {Worlds: 13, Rel: [][]uint64{slices.Repeat([]uint64{1 << 13}, 13)}},
		},
		api.ErrLimit: {
			{Worlds: 1, Val: make([]uint64, 9)}, {Worlds: 1, Rel: slices.Repeat([][]uint64{{1}}, 5)},
		},
		api.ErrForm: {
			{Worlds: 1, Rel: [][]uint64{nil}}, {Worlds: 1, Rel: [][]uint64{{1, 1}}}, {Worlds: 2, Rel: [][]uint64{{3, 3}, {3}}}, {Worlds: 64, Rel: [][]uint64{{}}},
		},
	}
}

// each calls a function with each model that is not valid, and its error.
func each(f func(m api.Model, e int)) {
	for e, l := range notValid() {
		for _, m := range l {
			f(m, e)
		}
	}
}

// wrongForms returns lists that are no propositional formulas of two facts, with the errors of boolean.Table.
func wrongForms() map[int][][]api.Node {
	return map[int][][]api.Node{
		api.ErrForm:  {nil, {}, {{Op: api.OpNot}}, {{Op: api.OpTrue, I: 1}}, {{Op: api.OpFact}, {Op: api.OpAnd, X: 0, Y: 1}}, {{Op: api.OpTrue}, {Op: api.OpNot, X: -1}}},
		api.ErrLimit: {slices.Repeat([]api.Node{{Op: api.OpTrue}}, 201), make([]api.Node, 1000)},
		api.ErrOp: {
			{{}}, {{Op: 22}}, {{Op: -1}}, {{Op: api.OpTrue}, {Op: math.MaxInt}},
			formula.Know(0, fact(0)), formula.Not(formula.Common(3, fact(0), fact(5))), formula.And(formula.Next(fact(1)), fact(7)), formula.Announce(fact(0), fact(1)),
		},
		api.ErrRange: {{{Op: api.OpFact, I: 8}}, {{Op: api.OpFact, I: -1}}, {{Op: api.OpFact}, {Op: api.OpEvery}}, {{Op: api.OpTrue}, {Op: api.OpKnow, I: 4}}, fact(2), formula.Or(fact(0), fact(7))},
	}
}

// isZero reports whether a model is the zero value.
func isZero(m api.Model) bool {
	return m.Worlds == 0 && len(m.Val) == 0 && len(m.Rel) == 0
}
