package announce_test

import (
	"math"
	"math/rand/v2"
	"slices"

	"witting/api"
	"witting/formula"
)

// full is a variable so that shifts drop its upper bits, as those of computed sets.
var full uint64 = math.MaxUint64

func has(s uint64, w int) bool {
	return s>>w&1 == 1
}

// worldsBelow returns the set of the worlds below n.
func worldsBelow(n int) uint64 {
	return full >> (64 - n)
}

// hats is the model of the chapter's examples.
func hats() api.Model {
	return api.Model{Worlds: 4, Val: []uint64{10, 12}, Rel: [][]uint64{{3, 3, 12, 12}, {5, 10, 5, 10}}}
}

// ignorant says that an agent knows neither a formula nor its negation.
func ignorant(agent int, f []api.Node) []api.Node {
	return formula.And(formula.Not(formula.Know(agent, f)), formula.Not(formula.Know(agent, formula.Not(f))))
}

// unknown says that a formula holds and an agent does not know it.
func unknown(agent int, f []api.Node) []api.Node {
	return formula.And(f, formula.Not(formula.Know(agent, f)))
}

// chain returns a model in which each world leads to the next one, and the last one, where a fact is true, to none.
func chain(worlds int) api.Model {
	m := api.Model{Worlds: worlds, Val: []uint64{1 << (worlds - 1)}, Rel: [][]uint64{make([]uint64, worlds)}}
	for w := range worlds - 1 {
		m.Rel[0][w] = 1 << (w + 1)
	}
	return m
}

// random returns a model with relations from sparse to dense.
func random(r *rand.Rand, worlds, facts, agents int) api.Model {
	set := func(density int) uint64 {
		s := worldsBelow(worlds)
		for range density {
			s &= r.Uint64()
		}
		return s
	}
	m := api.Model{Worlds: worlds}
	for range facts {
		m.Val = append(m.Val, set(r.IntN(4)))
	}
	for range agents {
		density := r.IntN(7)
		successors := make([]uint64, worlds)
		for w := range successors {
			successors[w] = set(density)
		}
		m.Rel = append(m.Rel, successors)
	}
	return m
}

// cells returns a model whose relations are random equivalences.
func cells(r *rand.Rand, worlds, facts, agents int) api.Model {
	m := random(r, worlds, facts, agents)
	for _, successors := range m.Rel {
		count, cell := 1+r.IntN(worlds), make([]int, worlds)
		for w := range cell {
			cell[w] = r.IntN(count)
		}
		for w := range successors {
			successors[w] = 0
			for v := range cell {
				if cell[v] == cell[w] {
					successors[w] |= 1 << v
				}
			}
		}
	}
	return m
}

// small returns all models with so many worlds, a fact and an agent.
func small(worlds int) []api.Model {
	l := []api.Model{}
	for bits := range uint64(1) << (worlds * (worlds + 1)) {
		m := api.Model{Worlds: worlds, Val: []uint64{bits & worldsBelow(worlds)}, Rel: [][]uint64{{}}}
		for w := range worlds {
			m.Rel[0] = append(m.Rel[0], bits>>(worlds*(w+1))&worldsBelow(worlds))
		}
		l = append(l, m)
	}
	return l
}

// samples returns valid models: those at the limits, and random ones, of which a half are equivalences.
func samples() []api.Model {
	all := slices.Repeat([]uint64{full}, 64)
	l := []api.Model{
		{Worlds: 1}, {Worlds: 64}, {Worlds: 3, Val: []uint64{5, 0}}, {Worlds: 2, Rel: [][]uint64{{0, 0}, {3, 3}, {1, 2}, {0, 2}}},
		{Worlds: 64, Val: all[:8], Rel: [][]uint64{all, all, all, all}}, hats(), chain(1), chain(2), chain(64),
	}
	r := rand.New(rand.NewPCG(25, 1))
	for _, worlds := range []int{1, 2, 3, 4, 5, 8, 21, 63, 64} {
		for range 4 {
			l = append(l, random(r, worlds, 1+r.IntN(3), 1+r.IntN(4)), cells(r, worlds, 1+r.IntN(3), 1+r.IntN(4)))
		}
		l = append(l, random(r, worlds, 8, 4), random(r, worlds, 0, 2), random(r, worlds, 2, 0))
	}
	return l
}

// operators returns nodes of all operators of the static language, for so many agents and facts.
func operators(agents, facts int) []api.Node {
	l := []api.Node{{Op: api.OpTrue}, {Op: api.OpFalse}, {Op: api.OpNot}, {Op: api.OpAnd}, {Op: api.OpOr}, {Op: api.OpImp}, {Op: api.OpIff}}
	for i := range facts {
		l = append(l, api.Node{Op: api.OpFact, I: i})
	}
	for a := range agents {
		l = append(l, api.Node{Op: api.OpKnow, I: a}, api.Node{Op: api.OpPoss, I: a})
	}
	for g := 1; g < 1<<agents; g++ {
		l = append(l, api.Node{Op: api.OpEvery, G: g}, api.Node{Op: api.OpDist, G: g}, api.Node{Op: api.OpCommon, G: g})
	}
	return l
}

// operands returns how many operands an operator has.
func operands(op int) int {
	switch op {
	case api.OpTrue, api.OpFalse, api.OpFact:
		return 0
	case api.OpAnd, api.OpOr, api.OpImp, api.OpIff, api.OpCommon, api.OpBelief, api.OpAnnounce, api.OpUntil, api.OpSince:
		return 2
	}
	return 1
}

// allFormulas returns all lists of at most so many nodes of the language, with an agent and a fact.
func allFormulas(size int) [][]api.Node {
	all, longest := [][]api.Node{}, [][]api.Node{{}}
	for range size {
		longer := [][]api.Node{}
		for _, f := range longest {
			for _, n := range operators(1, 1) {
				longer = append(longer, extended(f, n)...)
			}
		}
		all = append(all, longer...)
		longest = longer
	}
	return all
}

// extended returns a list with one more node, with all operands that it can have.
func extended(f []api.Node, n api.Node) [][]api.Node {
	count := operands(n.Op)
	if count == 0 {
		return [][]api.Node{append(slices.Clone(f), n)}
	}
	l := [][]api.Node{}
	for n.X = range f {
		l = append(l, append(slices.Clone(f), n))
		for y := 1; y < len(f) && count == 2; y++ {
			second := n
			second.Y = y
			l = append(l, append(slices.Clone(f), second))
		}
	}
	return l
}

// randomFormula returns a list of so many nodes of the language, most of whose operands are among the last nodes.
func randomFormula(r *rand.Rand, size, agents, facts int) []api.Node {
	f, nodes := []api.Node{}, operators(agents, facts)
	for len(f) < size {
		n := nodes[r.IntN(len(nodes))]
		if facts > 0 && r.IntN(4) == 0 {
			n = api.Node{Op: api.OpFact, I: r.IntN(facts)}
		}
		count := operands(n.Op)
		if count > 0 && len(f) == 0 {
			continue
		}
		near := func() int { return max(len(f)-1-r.IntN(4)*r.IntN(3), 0) }
		if count > 0 {
			n.X = near()
		}
		if count > 1 {
			n.Y = near()
		}
		f = append(f, n)
	}
	return f
}

// formulas returns random formulas that fit a model.
func formulas(r *rand.Rand, count int, m api.Model) [][]api.Node {
	l := [][]api.Node{}
	for range count {
		l = append(l, randomFormula(r, 1+r.IntN(15), len(m.Rel), len(m.Val)))
	}
	return l
}

// notValid returns models that are not valid, with their errors.
func notValid() map[int][]api.Model {
	return map[int][]api.Model{
		api.ErrRange: {
			{}, {Worlds: -1}, {Worlds: 65, Rel: [][]uint64{make([]uint64, 65)}}, {Worlds: math.MinInt}, {Worlds: math.MaxInt},
			{Worlds: 1, Val: []uint64{2}, Rel: [][]uint64{{1}}}, {Worlds: 2, Rel: [][]uint64{{3, 3}, {3, 7}}}, {Worlds: 13, Rel: [][]uint64{slices.Repeat([]uint64{1 << 13}, 13)}},
		},
		api.ErrLimit: {
			{Worlds: 1, Val: make([]uint64, 9)}, {Worlds: 1, Rel: slices.Repeat([][]uint64{{1}}, 5)},
		},
		api.ErrForm: {
			{Worlds: 1, Rel: [][]uint64{nil}}, {Worlds: 1, Rel: [][]uint64{{1, 1}}}, {Worlds: 2, Rel: [][]uint64{{3, 3}, {3}}}, {Worlds: 64, Rel: [][]uint64{{}}},
		},
	}
}

// noFormulas returns lists that are no formulas, with their errors.
func noFormulas() map[int][][]api.Node {
	return map[int][][]api.Node{
		api.ErrForm:  {nil, {}, {{Op: api.OpNot}}, {{Op: api.OpTrue, I: 1}}, {{Op: api.OpFact}, {Op: api.OpAnd, X: 0, Y: 1}}, {{Op: api.OpTrue}, {Op: api.OpNot, X: -1}}, {{Op: api.OpTrue}, {Op: api.OpKnow, X: math.MaxInt}}},
		api.ErrLimit: {slices.Repeat([]api.Node{{Op: api.OpTrue}}, 201), make([]api.Node, 1000)},
		api.ErrOp:    {{{}}, {{Op: 22}}, {{Op: -1}}, {{Op: api.OpTrue}, {Op: math.MaxInt}}},
		api.ErrRange: {{{Op: api.OpFact, I: 8}}, {{Op: api.OpFact, I: -1}}, {{Op: api.OpFact}, {Op: api.OpEvery}}, {{Op: api.OpTrue}, {Op: api.OpKnow, I: 4}}, {{Op: api.OpTrue}, {Op: api.OpPoss, I: math.MinInt}}},
	}
}

// notFitting returns formulas that cannot be evaluated in the model of the chapter's examples, with their errors.
func notFitting() map[int][][]api.Node {
	l := noFormulas()
	p := formula.Fact(0)
	l[api.ErrOp] = append(l[api.ErrOp], formula.Next(p), formula.Belief(0, p, p), formula.Safe(3, formula.Fact(7)), formula.Announce(p, p), formula.Act(0, 0, p), formula.Not(formula.Since(p, p)))
	l[api.ErrRange] = append(l[api.ErrRange], formula.Fact(2), formula.Know(2, p), formula.Every(4, p), formula.Or(p, formula.Common(15, p, p)))
	return l
}

// each calls a function with each element of lists with errors.
func each[T any](lists map[int][]T, f func(x T, e int)) {
	for e, l := range lists {
		for _, x := range l {
			f(x, e)
		}
	}
}

// isZero reports whether a model is the zero value.
func isZero(m api.Model) bool {
	return m.Worlds == 0 && len(m.Val) == 0 && len(m.Rel) == 0
}
