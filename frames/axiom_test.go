package frames_test

import (
	"math"
	"slices"
	"testing"

	"witting/api"
	"witting/formula"
	"witting/frames"
)

// axiom returns the axiom of a property for the agent 0 and the fact 0.
func axiom(t *testing.T, property int) []api.Node {
	t.Helper()
	f, e := frames.Axiom(property, 0, []api.Node{{Op: api.OpFact}})
	if e != api.OK || len(f) == 0 {
		t.Fatal("Axiom:", property, f, e)
	}
	return f
}

// truth returns the worlds at which a formula of implications, Know and Poss is true, where each fact is true in one set, and each agent has the same relation.
func truth(f []api.Node, r []uint64, fact uint64) uint64 {
	sets := make([]uint64, len(f))
	for i, n := range f {
		for w := range r {
			holds := false
			switch n.Op {
			case api.OpFact:
				holds = fact>>w&1 == 1
			case api.OpImp:
				holds = sets[n.X]>>w&1 == 0 || sets[n.Y]>>w&1 == 1
			case api.OpKnow:
				holds = r[w]&^sets[n.X] == 0
			case api.OpPoss:
				holds = r[w]&sets[n.X] != 0
			}
			if holds {
				sets[i] |= 1 << w
			}
		}
	}
	return sets[len(f)-1]
}

// behind returns the nodes that stand behind a formula of n nodes in its axiom.
func behind(property, agent, n int) []api.Node {
	know := func(x int) api.Node { return api.Node{Op: api.OpKnow, I: agent, X: x} }
	poss := func(x int) api.Node { return api.Node{Op: api.OpPoss, I: agent, X: x} }
	imp := func(x, y int) api.Node { return api.Node{Op: api.OpImp, X: x, Y: y} }
	switch property {
	case api.PropSerial:
		return []api.Node{know(n - 1), poss(n - 1), imp(n, n+1)}
	case api.PropReflexive:
		return []api.Node{know(n - 1), imp(n, n-1)}
	case api.PropSymmetric:
		return []api.Node{poss(n - 1), know(n), imp(n-1, n+1)}
	case api.PropTransitive:
		return []api.Node{know(n - 1), know(n), imp(n, n+1)}
	case api.PropEuclidean:
		return []api.Node{poss(n - 1), know(n), imp(n, n+1)}
	}
	return nil
}

// formulas returns formulas, some of which are no canonical lists.
func formulas() [][]api.Node {
	p, q := formula.Fact(0), formula.Fact(7)
	return [][]api.Node{
		p, q, formula.True(), formula.False(), formula.Imp(p, q), formula.Imp(formula.Know(1, p), formula.Poss(1, p)),
		formula.Know(0, formula.Poss(0, formula.Know(3, q))), formula.Common(3, p, q), formula.Belief(2, p, q), formula.Act(7, 7, p), formula.Announce(p, formula.Next(q)),
		{{Op: api.OpFact, I: 1}, {Op: api.OpFact}, {Op: api.OpFact, I: 1}, {Op: api.OpAnd, X: 0, Y: 1}, {Op: api.OpKnow, X: 3}, {Op: api.OpOr, X: 4, Y: 2}},
		slices.Repeat([]api.Node{{Op: api.OpTrue}}, api.MaxNodes),
	}
}

// TestAxiom is P15.4.
func TestAxiom(t *testing.T) {
	for _, f := range formulas() {
		for property := 1; property <= 5; property++ {
			for agent := range api.MaxAgents {
				argument := append(slices.Clone(f), api.Node{Op: mark})[:len(f)]
				want := formula.Compact(f)
				want = append(want, behind(property, agent, len(want))...)
				got, e := frames.Axiom(property, agent, argument)
				if e != api.OK || !slices.Equal(got, want) {
					t.Errorf("Axiom(%d, %d, %v) is %v, %d", property, agent, f, got, e)
				}
				clear(got[:cap(got)])
				if !slices.Equal(argument, f) || argument[:len(f)+1][len(f)].Op != mark {
					t.Errorf("Axiom(%d, %d, %v) has changed it to %v", property, agent, f, argument)
				}
			}
		}
	}
}

// TestAxiomErrors is part of P15.4: the errors in their order.
func TestAxiomErrors(t *testing.T) {
	fails := func(property, agent int, f []api.Node, want int) {
		t.Helper()
		if got, e := frames.Axiom(property, agent, f); e != want || len(got) != 0 {
			t.Errorf("Axiom(%d, %d, %d nodes) is %v, %d", property, agent, len(f), got, e)
		}
	}
	properties := append(noProperties(), 1, 2, 3, 4, 5)
	agents := []int{math.MinInt, -1, 4, 5, 64, math.MaxInt}
	for want, l := range map[int][][]api.Node{
		api.ErrForm:  {nil, {}, {{Op: api.OpNot}}, {{Op: api.OpTrue, I: 1}}},
		api.ErrLimit: {make([]api.Node, api.MaxNodes+1), slices.Repeat([]api.Node{{Op: api.OpTrue}}, api.MaxNodes+1)},
		api.ErrOp:    {{{Op: 22}}, {{}}},
		api.ErrRange: {{{Op: api.OpFact, I: 8}}, {{Op: api.OpFact}, {Op: api.OpKnow, I: 4}}},
	} {
		for _, f := range l {
			for _, property := range properties {
				for _, agent := range append(agents, 0, 3) {
					fails(property, agent, f, want)
				}
			}
		}
	}
	for _, f := range append(formulas(), nots(api.MaxNodes)) {
		for _, property := range noProperties() {
			for _, agent := range append(agents, 0, 3) {
				fails(property, agent, f, api.ErrArg)
			}
		}
		for property := 1; property <= 5; property++ {
			for _, agent := range agents {
				fails(property, agent, f, api.ErrRange)
			}
		}
	}
}

// nots returns a fact with so many negations that the formula has n nodes.
func nots(n int) []api.Node {
	f := []api.Node{{Op: api.OpFact}}
	for len(f) < n {
		f = append(f, api.Node{Op: api.OpNot, X: len(f) - 1})
	}
	return f
}

// TestAxiomLimit is part of P15.4: the axiom of the reflexive relations has two nodes more than the formula, the other ones three.
func TestAxiomLimit(t *testing.T) {
	for n := 190; n <= api.MaxNodes; n++ {
		for property := 1; property <= 5; property++ {
			f, e := frames.Axiom(property, 1, nots(n))
			size := n + len(behind(property, 1, n))
			if size <= api.MaxNodes && (e != api.OK || len(f) != size) || size > api.MaxNodes && (e != api.ErrLimit || len(f) != 0) {
				t.Errorf("Axiom(%d, 1, %d nodes) has %d nodes, %d", property, n, len(f), e)
			}
		}
	}
}
