package filter_test

import (
	"math"
	"math/rand/v2"
	"slices"
	"testing"

	"witting/api"
	"witting/formula"
	"witting/relation"
)

// full is a variable so that shifts drop its upper bits, as those of computed sets.
var full uint64 = math.MaxUint64

func has(s uint64, w int) bool {
	return s>>w&1 == 1
}

// worldsBelow returns the set of the worlds below n.
func worldsBelow(n int) uint64 {
	return full >> (64 - n)
}

// example is the model of the chapter's examples, and possible its formula.
func example() api.Model {
	return api.Model{Worlds: 4, Val: []uint64{8}, Rel: [][]uint64{{2, 4, 8, 0}}}
}

func possible() []api.Node {
	return formula.Poss(0, formula.Fact(0))
}

// chain returns a model in which each world leads to the next one, and the last one, where a fact is true, to none.
func chain(worlds int) api.Model {
	m := api.Model{Worlds: worlds, Val: []uint64{1 << (worlds - 1)}, Rel: [][]uint64{make([]uint64, worlds)}}
	for w := range worlds - 1 {
		m.Rel[0][w] = 1 << (w + 1)
	}
	return m
}

// random returns a model with relations from sparse to dense.
func random(r *rand.Rand, worlds, facts, agents int) api.Model {
	set := func(density int) uint64 {
		s := worldsBelow(worlds)
		for range density {
			s &= r.Uint64()
		}
		return s
	}
	m := api.Model{Worlds: worlds}
	for range facts {
		m.Val = append(m.Val, set(r.IntN(4)))
	}
	for range agents {
		density := r.IntN(7)
		successors := make([]uint64, worlds)
		for w := range successors {
			successors[w] = set(density)
		}
		m.Rel = append(m.Rel, successors)
	}
	return m
}

// small returns all models with so many worlds, a fact and an agent.
func small(worlds int) []api.Model {
	l := []api.Model{}
	for bits := range uint64(1) << (worlds * (worlds + 1)) {
		m := api.Model{Worlds: worlds, Val: []uint64{bits & worldsBelow(worlds)}, Rel: [][]uint64{{}}}
		for w := range worlds {
			m.Rel[0] = append(m.Rel[0], bits>>(worlds*(w+1))&worldsBelow(worlds))
		}
		l = append(l, m)
	}
	return l
}

// closed returns a model with the closures of its relations.
func closed(t *testing.T, m api.Model, closure func(r []uint64) ([]uint64, int)) api.Model {
	t.Helper()
	c := api.Model{Worlds: m.Worlds, Val: m.Val}
	for _, r := range m.Rel {
		s, e := closure(r)
		if e != api.OK {
			t.Fatal(r, e)
		}
		c.Rel = append(c.Rel, s)
	}
	return c
}

// samples returns valid models: those at the limits, and random ones, of which many are transitive.
func samples(t *testing.T) []api.Model {
	t.Helper()
	all := slices.Repeat([]uint64{full}, 64)
	l := []api.Model{
		{Worlds: 1}, {Worlds: 64}, {Worlds: 3, Val: []uint64{5, 0}}, {Worlds: 2, Rel: [][]uint64{{0, 0}, {3, 3}, {1, 2}, {0, 2}}},
		{Worlds: 64, Val: all[:8], Rel: [][]uint64{all, all, all, all}}, example(), chain(1), chain(63), chain(64),
	}
	r := rand.New(rand.NewPCG(23, 1))
	for _, worlds := range []int{1, 2, 3, 4, 5, 8, 21, 63, 64} {
		for range 4 {
			m := random(r, worlds, 1+r.IntN(3), 1+r.IntN(4))
			l = append(l, m, closed(t, m, relation.Transitive), closed(t, closed(t, m, relation.Reflexive), relation.Transitive))
			sparse := random(r, worlds, 2, 2)
			for _, s := range sparse.Rel {
				for w := range s {
					s[w] &= r.Uint64() & r.Uint64() & r.Uint64()
				}
			}
			l = append(l, sparse, closed(t, sparse, relation.Transitive), closed(t, sparse, relation.Symmetric))
		}
		l = append(l, random(r, worlds, 8, 4), random(r, worlds, 0, 2), random(r, worlds, 2, 0))
	}
	return l
}

// operators returns nodes of all operators of the language, for so many agents and facts.
func operators(agents, facts int) []api.Node {
	l := []api.Node{{Op: api.OpTrue}, {Op: api.OpFalse}, {Op: api.OpNot}, {Op: api.OpAnd}, {Op: api.OpOr}, {Op: api.OpImp}, {Op: api.OpIff}}
	for i := range facts {
		l = append(l, api.Node{Op: api.OpFact, I: i})
	}
	for a := range agents {
		l = append(l, api.Node{Op: api.OpKnow, I: a}, api.Node{Op: api.OpPoss, I: a})
	}
	return l
}

// operands returns how many operands an operator has.
func operands(op int) int {
	switch op {
	case api.OpTrue, api.OpFalse, api.OpFact:
		return 0
	case api.OpNot, api.OpKnow, api.OpPoss:
		return 1
	}
	return 2
}

// allFormulas returns all lists of at most so many nodes of the language, with an agent and a fact.
func allFormulas(size int) [][]api.Node {
	all, longest := [][]api.Node{}, [][]api.Node{{}}
	for range size {
		longer := [][]api.Node{}
		for _, f := range longest {
			for _, n := range operators(1, 1) {
				longer = append(longer, extended(f, n)...)
			}
		}
		all = append(all, longer...)
		longest = longer
	}
	return all
}

// extended returns a list with one more node, with all operands that it can have.
func extended(f []api.Node, n api.Node) [][]api.Node {
	count := operands(n.Op)
	if count == 0 {
		return [][]api.Node{append(slices.Clone(f), n)}
	}
	l := [][]api.Node{}
	for n.X = range f {
		l = append(l, append(slices.Clone(f), n))
		for y := 1; y < len(f) && count == 2; y++ {
			second := n
			second.Y = y
			l = append(l, append(slices.Clone(f), second))
		}
	}
	return l
}

// randomFormula returns a list of so many nodes of the language, most of whose operands are among the last nodes.
func randomFormula(r *rand.Rand, size, agents, facts int) []api.Node {
	f, nodes := []api.Node{}, operators(agents, facts)
	for len(f) < size {
		n := nodes[r.IntN(len(nodes))]
		if r.IntN(3) == 0 {
			// The operators of agents are the last ones.
			n = nodes[len(nodes)-1-r.IntN(max(1, 2*agents))]
		}
		count := operands(n.Op)
		if count > 0 && len(f) == 0 {
			continue
		}
		near := func() int { return max(len(f)-1-r.IntN(4)*r.IntN(3), 0) }
		if count > 0 {
			n.X = near()
		}
		if count > 1 {
			n.Y = near()
		}
		f = append(f, n)
	}
	return f
}

// notValid returns models that are not valid, with their errors.
func notValid() map[int][]api.Model {
	return map[int][]api.Model{
		api.ErrRange: {
			{}, {Worlds: -1}, {Worlds: 65, Rel: [][]uint64{make([]uint64, 65)}}, {Worlds: math.MinInt}, {Worlds: math.MaxInt},
			{Worlds: 1, Val: []uint64{2}, Rel: [][]uint64{{1}}}, {Worlds: 2, Rel: [][]uint64{{3, 3}, {3, 7}}}, {Worlds: 13, Rel: [][]uint64{slices.Repeat([]uint64{1 << 13}, 13)}},
		},
		api.ErrLimit: {
			{Worlds: 1, Val: make([]uint64, 9)}, {Worlds: 1, Rel: slices.Repeat([][]uint64{{1}}, 5)},
		},
		api.ErrForm: {
			{Worlds: 1, Rel: [][]uint64{nil}}, {Worlds: 1, Rel: [][]uint64{{1, 1}}}, {Worlds: 2, Rel: [][]uint64{{3, 3}, {3}}}, {Worlds: 64, Rel: [][]uint64{{}}},
		},
	}
}

// noFormulas returns lists that are no formulas, with their errors.
func noFormulas() map[int][][]api.Node {
	return map[int][][]api.Node{
		api.ErrForm:  {nil, {}, {{Op: api.OpNot}}, {{Op: api.OpTrue, I: 1}}, {{Op: api.OpFact}, {Op: api.OpAnd, X: 0, Y: 1}}, {{Op: api.OpTrue}, {Op: api.OpNot, X: -1}}, {{Op: api.OpTrue}, {Op: api.OpKnow, X: math.MaxInt}}},
		api.ErrLimit: {slices.Repeat([]api.Node{{Op: api.OpTrue}}, 201), make([]api.Node, 1000)},
		api.ErrOp:    {{{}}, {{Op: 22}}, {{Op: -1}}, {{Op: api.OpTrue}, {Op: math.MaxInt}}},
		api.ErrRange: {{{Op: api.OpFact, I: 8}}, {{Op: api.OpFact, I: -1}}, {{Op: api.OpFact}, {Op: api.OpEvery}}, {{Op: api.OpTrue}, {Op: api.OpKnow, I: 4}}, {{Op: api.OpTrue}, {Op: api.OpPoss, I: math.MinInt}}},
	}
}

// each calls a function with each element of lists with errors.
func each[T any](lists map[int][]T, f func(x T, e int)) {
	for e, l := range lists {
		for _, x := range l {
			f(x, e)
		}
	}
}

// isZero reports whether a model is the zero value.
func isZero(m api.Model) bool {
	return m.Worlds == 0 && len(m.Val) == 0 && len(m.Rel) == 0
}
