package checker_test

import (
	"math"
	"math/rand/v2"
	"slices"

	"witting/api"
)

// full is a variable so that shifts drop its upper bits, as those of computed sets.
var full uint64 = math.MaxUint64

func has(s uint64, w int) bool {
	return s>>w&1 == 1
}

// worldsBelow returns the set of the worlds below n.
func worldsBelow(n int) uint64 {
	return full >> (64 - n)
}

// random returns a model with relations from sparse to dense.
func random(r *rand.Rand, worlds, facts, agents int) api.Model {
	set := func(density int) uint64 {
		s := worldsBelow(worlds)
		for range density {
			s &= r.Uint64()
		}
		return s
	}
	m := api.Model{Worlds: worlds}
	for range facts {
		m.Val = append(m.Val, set(r.IntN(4)))
	}
	for range agents {
		density := r.IntN(7)
		successors := make([]uint64, worlds)
		for w := range successors {
			successors[w] = set(density)
		}
		m.Rel = append(m.Rel, successors)
	}
	return m
}

// small returns all models with so many worlds, a fact and an agent.
func small(worlds int) []api.Model {
	l := []api.Model{}
	for bits := range uint64(1) << (worlds * (worlds + 1)) {
		m := api.Model{Worlds: worlds, Val: []uint64{bits & worldsBelow(worlds)}, Rel: [][]uint64{{}}}
		for w := range worlds {
			m.Rel[0] = append(m.Rel[0], bits>>(worlds*(w+1))&worldsBelow(worlds))
		}
		l = append(l, m)
	}
	return l
}

// example is the model of the chapter's examples.
func example() api.Model {
	return api.Model{Worlds: 3, Val: []uint64{3}, Rel: [][]uint64{{3, 3, 4}, {1, 6, 6}}}
}

// chain returns a model in which each world leads to the next one, for one of the agents in turn; the fact 0 is true at the last world, and the fact 1 at all others.
func chain(worlds, agents int) api.Model {
	last := uint64(1) << (worlds - 1)
	m := api.Model{Worlds: worlds, Val: []uint64{last, worldsBelow(worlds) &^ last}, Rel: make([][]uint64, agents)}
	for a := range m.Rel {
		m.Rel[a] = make([]uint64, worlds)
		for w := a; w+1 < worlds; w += agents {
			m.Rel[a][w] = 1 << (w + 1)
		}
	}
	return m
}

// samples returns valid models: small ones, those at the limits, and random ones.
func samples() []api.Model {
	l := []api.Model{
		{Worlds: 1},
		{Worlds: 64},
		{Worlds: 1, Val: []uint64{1, 0}},
		{Worlds: 64, Val: slices.Repeat([]uint64{full}, 8), Rel: slices.Repeat([][]uint64{slices.Repeat([]uint64{full}, 64)}, 4)},
		example(), chain(64, 1), chain(64, 4), chain(63, 2), chain(2, 2), chain(33, 3),
	}
	l = slices.Concat(l, small(1), small(2))
	r := rand.New(rand.NewPCG(17, 1))
	for _, worlds := range []int{1, 2, 3, 4, 5, 8, 20, 63, 64} {
		for range 4 {
			l = append(l, random(r, worlds, r.IntN(9), r.IntN(5)))
		}
		l = append(l, random(r, worlds, 8, 4))
	}
	return l
}

// notValid returns models that are not valid, with their errors.
func notValid() map[int][]api.Model {
	return map[int][]api.Model{
		api.ErrRange: {
			{}, {Worlds: -1}, {Worlds: 65, Val: make([]uint64, 1), Rel: [][]uint64{make([]uint64, 65)}}, {Worlds: math.MinInt}, {Worlds: math.MaxInt},
			{Worlds: 1, Val: []uint64{2}, Rel: [][]uint64{{1}}}, {Worlds: 2, Val: []uint64{3}, Rel: [][]uint64{{3, 3}, {3, 7}}},
		},
		api.ErrLimit: {
			{Worlds: 1, Val: make([]uint64, 9)}, {Worlds: 1, Rel: slices.Repeat([][]uint64{{1}}, 5)},
		},
		api.ErrForm: {
			{Worlds: 1, Rel: [][]uint64{nil}}, {Worlds: 1, Rel: [][]uint64{{1, 1}}}, {Worlds: 2, Rel: [][]uint64{{3, 3}, {3}}},
		},
	}
}

// noFormulas returns lists that are no formulas, with their errors.
func noFormulas() map[int][][]api.Node {
	many := slices.Repeat([]api.Node{{Op: api.OpTrue}}, 201)
	return map[int][][]api.Node{
		api.ErrForm: {
			nil, {}, {{Op: api.OpNot}}, {{Op: api.OpTrue}, {Op: api.OpNot, X: 1}}, {{Op: api.OpTrue}, {Op: api.OpNot, X: -1}}, {{Op: api.OpTrue, I: 1}},
			{{Op: api.OpFact}, {Op: api.OpCommon, G: 1, X: 0, Y: math.MaxInt}}, {{Op: api.OpFact}, {Op: api.OpKnow, I: math.MinInt, X: math.MinInt}},
		},
		api.ErrLimit: {many, slices.Repeat([]api.Node{{Op: 22}}, 201)},
		api.ErrOp:    {{{Op: 0}}, {{Op: 22}}, {{Op: math.MaxInt}}, {{Op: api.OpTrue}, {Op: -1}, {Op: api.OpTrue}}},
		api.ErrRange: {
			{{Op: api.OpFact, I: 8}}, {{Op: api.OpFact, I: math.MinInt}}, {{Op: api.OpTrue}, {Op: api.OpKnow, I: 4}}, {{Op: api.OpTrue}, {Op: api.OpEvery}},
			{{Op: api.OpTrue}, {Op: api.OpDist, G: 16}}, {{Op: api.OpTrue}, {Op: api.OpCommon, G: math.MaxInt}},
		},
	}
}

// eachError calls a function with each list of a map, and its error.
func eachError[T any](lists map[int][]T, f func(element T, e int)) {
	for e, l := range lists {
		for _, element := range l {
			f(element, e)
		}
	}
}

// operators returns a node of each static operator, for each of some agents, facts and groups of them.
func operators(agents, facts int) []api.Node {
	l := []api.Node{
		{Op: api.OpTrue}, {Op: api.OpFalse}, {Op: api.OpNot}, {Op: api.OpAnd}, {Op: api.OpOr}, {Op: api.OpImp}, {Op: api.OpIff},
	}
	for i := range facts {
		l = append(l, api.Node{Op: api.OpFact, I: i})
	}
	for a := range agents {
		l = append(l, api.Node{Op: api.OpKnow, I: a}, api.Node{Op: api.OpPoss, I: a})
	}
	for g := 1; g < 1<<agents; g++ {
		l = append(l, api.Node{Op: api.OpEvery, G: g}, api.Node{Op: api.OpDist, G: g}, api.Node{Op: api.OpCommon, G: g})
	}
	return l
}

// operands returns how many operands an operator has.
func operands(op int) int {
	switch op {
	case api.OpTrue, api.OpFalse, api.OpFact:
		return 0
	case api.OpAnd, api.OpOr, api.OpImp, api.OpIff, api.OpCommon, api.OpBelief, api.OpAnnounce, api.OpUntil, api.OpSince:
		return 2
	}
	return 1
}

// randomFormula returns a list of so many nodes, each one of some nodes with operands.
func randomFormula(r *rand.Rand, size int, nodes []api.Node) []api.Node {
	f := []api.Node{}
	for len(f) < size {
		n := nodes[r.IntN(len(nodes))]
		count := operands(n.Op)
		if count > 0 && len(f) == 0 {
			continue
		}
		// Most operands are among the last nodes, so that formulas are deep.
		near := func() int { return max(len(f)-1-r.IntN(4)*r.IntN(3), 0) }
		if count > 0 {
			n.X = near()
		}
		if count > 1 {
			n.Y = near()
		}
		f = append(f, n)
	}
	return f
}

// formulas returns random formulas that fit so many agents and facts.
func formulas(r *rand.Rand, count, agents, facts int) [][]api.Node {
	l := [][]api.Node{}
	for range count {
		l = append(l, randomFormula(r, 1+r.IntN(25), operators(agents, facts)))
	}
	return l
}

// allFormulas returns all lists of at most so many nodes with an agent and a fact.
func allFormulas(size int) [][]api.Node {
	all, longest := [][]api.Node{}, [][]api.Node{{}}
	for range size {
		longer := [][]api.Node{}
		for _, f := range longest {
			for _, n := range operators(1, 1) {
				longer = append(longer, extended(f, n)...)
			}
		}
		all = append(all, longer...)
		longest = longer
	}
	return all
}

// extended returns a list with one more node, with all operands that it can have.
func extended(f []api.Node, n api.Node) [][]api.Node {
	l := [][]api.Node{}
	count := operands(n.Op)
	for x := range len(f) + 1 {
		for y := range len(f) + 1 {
			fits := (x == 0 || count > 0) && (y == 0 || count > 1) && (count == 0 || x < len(f) && y < len(f))
			if fits {
				n.X, n.Y = x, y
				l = append(l, append(slices.Clone(f), n))
			}
		}
	}
	return l
}
