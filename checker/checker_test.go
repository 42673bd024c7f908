package checker_test

import (
	"math"
	"math/rand/v2"
	"slices"
	"testing"

	"witting/api"
	"witting/checker"
	"witting/formula"
)

// TestExamples contains the chapter's examples.
func TestExamples(t *testing.T) {
	m, p := example(), formula.Fact(0)
	for i, c := range []struct {
		f    []api.Node
		want uint64
	}{
		{p, 3}, {formula.Know(0, p), 3}, {formula.Know(1, p), 1}, {formula.Every(3, p), 1}, {formula.Dist(3, p), 3},
		{formula.Common(3, formula.True(), p), 0}, {formula.Common(3, p, p), 7}, {formula.Poss(1, formula.Not(p)), 6},
	} {
		if set, e := checker.Holds(m, c.f); set != c.want || e != api.OK {
			t.Errorf("example %d: %d, %d, not %d", i, set, e, c.want)
		}
	}
}

// checkAll compares all functions with the chapter's definitions, for a formula all of whose nodes fit a model.
func checkAll(t *testing.T, m api.Model, f []api.Node) {
	t.Helper()
	want := setsOf(m, f)
	whole := want[len(want)-1]
	if sets, e := checker.Sets(m, f); !slices.Equal(sets, want) || e != api.OK {
		t.Fatalf("Sets(%v, %v) is %v, %d, not %v", m, f, sets, e, want)
	}
	if set, e := checker.Holds(m, f); set != whole || e != api.OK {
		t.Fatalf("Holds(%v, %v) is %d, %d, not %d", m, f, set, e, whole)
	}
	if valid, e := checker.Valid(m, f); valid != (whole == worldsBelow(m.Worlds)) || e != api.OK {
		t.Fatalf("Valid(%v, %v) is %t, %d", m, f, valid, e)
	}
	for w := range m.Worlds {
		if holds, e := checker.At(m, w, f); holds != has(whole, w) || e != api.OK {
			t.Fatalf("At(%v, %d, %v) is %t, %d", m, w, f, holds, e)
		}
	}
	for _, w := range []int{math.MinInt, -1, m.Worlds, m.Worlds + 1, 64, math.MaxInt} {
		if holds, e := checker.At(m, w, f); holds || e != api.ErrRange {
			t.Fatalf("At(%v, %d, %v) is %t, %d", m, w, f, holds, e)
		}
	}
}

// TestSmall is P17.2: all formulas of up to three nodes in all models of up to two worlds, with a fact and an agent.
func TestSmall(t *testing.T) {
	for _, m := range slices.Concat(small(1), small(2)) {
		for _, f := range allFormulas(3) {
			checkAll(t, m, f)
		}
	}
}

// TestRandom is P17.2: random formulas in models of all sizes.
func TestRandom(t *testing.T) {
	r := rand.New(rand.NewPCG(17, 2))
	mixed := map[int]int{}
	for _, m := range samples() {
		for _, f := range formulas(r, 12, len(m.Rel), len(m.Val)) {
			checkAll(t, m, f)
			for i, s := range setsOf(m, f) {
				if s != 0 && s != worldsBelow(m.Worlds) {
					mixed[f[i].Op]++
				}
			}
		}
	}
	for op := api.OpFact; op <= api.OpCommon; op++ {
		if mixed[op] < 30 {
			t.Errorf("the operator %d makes a difference only %d times", op, mixed[op])
		}
	}
}

// TestCommon is P17.2: paths of all lengths, along worlds of the condition, and from a world where it does not hold.
func TestCommon(t *testing.T) {
	p, q := formula.Fact(0), formula.Fact(1)
	for _, c := range []struct {
		m    api.Model
		f    []api.Node
		want uint64
	}{
		{chain(64, 1), formula.Common(1, formula.True(), q), 1 << 63},
		{chain(64, 1), formula.Common(1, q, q), full},
		{chain(64, 1), formula.Common(1, q, p), 1<<63 | 1<<62},
		{chain(64, 4), formula.Common(15, formula.True(), q), 1 << 63},
		{chain(64, 4), formula.Common(7, formula.True(), q), 1<<63 | worldsBelow(60)},
		{chain(64, 4), formula.Common(14, formula.False(), formula.False()), full},
		{chain(3, 2), formula.Common(3, p, formula.False()), 5},
		{chain(3, 2), formula.Common(3, q, formula.False()), 6},
		// From the world 0, where p does not hold, one step leads to itself.
		{api.Model{Worlds: 2, Val: []uint64{2, 1}, Rel: [][]uint64{{3, 0}}}, formula.Common(1, p, q), 2},
		{api.Model{Worlds: 2, Val: []uint64{2, 1}, Rel: [][]uint64{{1, 0}}}, formula.Common(1, p, formula.False()), 3},
	} {
		if set, e := checker.Holds(c.m, c.f); set != c.want || e != api.OK {
			t.Errorf("%v in %v: %x, %d, not %x", c.f, c.m, set, e, c.want)
		}
	}
}

// TestUnusedNodes is P17.2: nodes that the whole formula does not use.
func TestUnusedNodes(t *testing.T) {
	m := example()
	p := api.Node{Op: api.OpFact}
	for i, c := range []struct {
		f    []api.Node
		want []uint64
	}{
		{[]api.Node{p, {Op: api.OpNot}, p}, []uint64{3, 4, 3}},
		{[]api.Node{{Op: api.OpFact, I: 1}, p}, []uint64{0, 3}},
		{[]api.Node{{Op: api.OpFact, I: 7}, {Op: api.OpNot}, {Op: api.OpNot, X: 1}, p}, []uint64{0, 0, 0, 3}},
		{[]api.Node{p, {Op: api.OpKnow, I: 1}, {Op: api.OpKnow, I: 2}, p}, []uint64{3, 1, 0, 3}},
		{[]api.Node{p, {Op: api.OpPoss, I: 1}, {Op: api.OpPoss, I: 3}, p}, []uint64{3, 7, 0, 3}},
		{[]api.Node{p, {Op: api.OpEvery, G: 3}, {Op: api.OpEvery, G: 4}, {Op: api.OpEvery, G: 5}, p}, []uint64{3, 1, 0, 0, 3}},
		{[]api.Node{p, {Op: api.OpDist, G: 3}, {Op: api.OpDist, G: 8}, {Op: api.OpDist, G: 15}, p}, []uint64{3, 3, 0, 0, 3}},
		{[]api.Node{p, {Op: api.OpCommon, G: 3}, {Op: api.OpCommon, G: 4}, {Op: api.OpCommon, G: 7}, p}, []uint64{3, 7, 0, 0, 3}},
		{[]api.Node{p, {Op: api.OpFact, I: 1}, {Op: api.OpOr, Y: 1}, {Op: api.OpOr, X: 1}, {Op: api.OpOr}}, []uint64{3, 0, 0, 0, 3}},
		{[]api.Node{p, {Op: api.OpNext}, {Op: api.OpImp, Y: 1}, {Op: api.OpImp, X: 1}, {Op: api.OpImp}}, []uint64{3, 0, 0, 0, 7}},
		{[]api.Node{p, {Op: api.OpBelief}, {Op: api.OpIff, X: 1, Y: 1}, {Op: api.OpAnd, X: 1}, {Op: api.OpAnd, Y: 1}, p}, []uint64{3, 0, 0, 0, 0, 3}},
		{[]api.Node{p, {Op: api.OpSafe}, {Op: api.OpKnow, X: 1}, {Op: api.OpPoss, X: 1}, {Op: api.OpEvery, G: 1, X: 1}, {Op: api.OpDist, G: 1, X: 1}, {Op: api.OpTrue}}, []uint64{3, 0, 0, 0, 0, 0, 7}},
		{[]api.Node{p, {Op: api.OpAct}, {Op: api.OpCommon, G: 1, X: 1}, {Op: api.OpCommon, G: 1, Y: 1}, {Op: api.OpCommon, G: 1}, {Op: api.OpFalse}}, []uint64{3, 0, 0, 0, 7, 0}},
		// The node 1 does not use the node 0, although its fields X and Y are 0.
		{[]api.Node{{Op: api.OpFact, I: 1}, {Op: api.OpTrue}, {Op: api.OpNot, X: 1}}, []uint64{0, 7, 0}},
		{[]api.Node{{Op: api.OpFact, I: 1}, p, {Op: api.OpNot, X: 1}}, []uint64{0, 3, 4}},
		{[]api.Node{{Op: api.OpFact, I: 1}, p, {Op: api.OpKnow, I: 1, X: 1}}, []uint64{0, 3, 1}},
	} {
		if sets, e := checker.Sets(m, c.f); !slices.Equal(sets, c.want) || e != api.OK {
			t.Errorf("case %d: %v, %d, not %v", i, sets, e, c.want)
		}
		whole := c.want[len(c.want)-1]
		if set, e := checker.Holds(m, c.f); set != whole || e != api.OK {
			t.Errorf("case %d: %d, %d", i, set, e)
		}
		if valid, e := checker.Valid(m, c.f); valid != (whole == 7) || e != api.OK {
			t.Errorf("case %d: %t, %d", i, valid, e)
		}
	}
}

// TestOtherOperators is P17.2: each operator of the other fragments, in a node that is not used, and P17.1: in one that is used.
func TestOtherOperators(t *testing.T) {
	p := api.Node{Op: api.OpFact}
	for op := api.OpBelief; op <= api.OpSince; op++ {
		if sets, e := checker.Sets(example(), []api.Node{p, {Op: op}, {Op: api.OpNot, X: 1}, p}); !slices.Equal(sets, []uint64{3, 0, 0, 3}) || e != api.OK {
			t.Errorf("operator %d that is not used: %v, %d", op, sets, e)
		}
		checkError(t, example(), []api.Node{p, {Op: op}}, api.ErrOp)
		checkError(t, example(), []api.Node{p, {Op: op}, {Op: api.OpKnow, X: 1}}, api.ErrOp)
	}
}

// TestDepth checks formulas of the greatest size.
func TestDepth(t *testing.T) {
	f := []api.Node{{Op: api.OpFact}}
	for i := range 199 {
		f = append(f, api.Node{Op: api.OpCommon, G: 1 + i%15, X: i, Y: i})
	}
	checkAll(t, random(rand.New(rand.NewPCG(17, 3)), 64, 1, 4), f)
	for i := range 199 {
		f[i+1] = api.Node{Op: api.OpKnow, X: i}
	}
	m := chain(64, 1)
	want := setsOf(m, f)
	if sets, e := checker.Sets(m, f); !slices.Equal(sets, want) || e != api.OK || sets[1] != 1<<63|1<<62 || sets[62] != full&^1 || sets[63] != full {
		t.Errorf("%x, %d", sets, e)
	}
}

// checkError checks that all functions return an error.
func checkError(t *testing.T, m api.Model, f []api.Node, want int) {
	t.Helper()
	if sets, e := checker.Sets(m, f); len(sets) != 0 || e != want {
		t.Errorf("Sets(%v, %v) is %v, %d, not %d", m, f, sets, e, want)
	}
	if set, e := checker.Holds(m, f); set != 0 || e != want {
		t.Errorf("Holds(%v, %v) is %d, %d, not %d", m, f, set, e, want)
	}
	if valid, e := checker.Valid(m, f); valid || e != want {
		t.Errorf("Valid(%v, %v) is %t, %d, not %d", m, f, valid, e, want)
	}
	for _, w := range []int{math.MinInt, -1, 0, 1, m.Worlds, math.MaxInt} {
		if holds, e := checker.At(m, w, f); holds || e != want {
			t.Errorf("At(%v, %d, %v) is %t, %d, not %d", m, w, f, holds, e, want)
		}
	}
}

// TestErrors is P17.1: the errors in their order.
func TestErrors(t *testing.T) {
	next := []api.Node{{Op: api.OpFact, I: 1}, {Op: api.OpNext}}
	other := formula.Fact(1)
	eachError(notValid(), func(m api.Model, e int) {
		checkError(t, m, formula.Fact(0), e)
		checkError(t, m, next, e)
		checkError(t, m, other, e)
		checkError(t, m, nil, e)
		checkError(t, m, []api.Node{{Op: 22}}, e)
	})
	eachError(noFormulas(), func(f []api.Node, e int) {
		checkError(t, example(), f, e)
		// Neither an operator of another fragment nor a fact that there is not comes before this.
		if len(f) > 0 && len(f) < 200 {
			checkError(t, example(), append(slices.Clone(f), next[0]), e)
		}
	})
	checkError(t, example(), next, api.ErrOp)
}

// TestErrorRange is P17.1: formulas with facts or agents that the model does not have.
func TestErrorRange(t *testing.T) {
	p := formula.Fact(0)
	for agents := range 5 {
		for facts := range 9 {
			m := random(rand.New(rand.NewPCG(17, 4)), 3, facts, agents)
			for i := range 8 {
				checkFits(t, m, formula.Fact(i), i < facts)
			}
			for a := range 4 {
				checkFits(t, m, formula.Know(a, formula.True()), a < agents)
				checkFits(t, m, formula.Poss(a, p), a < agents && facts > 0)
			}
			for g := 1; g < 16; g++ {
				for _, f := range [][]api.Node{formula.Every(g, formula.True()), formula.Dist(g, formula.False()), formula.Common(g, formula.True(), formula.True())} {
					checkFits(t, m, f, g < 1<<agents)
				}
			}
		}
	}
	checkError(t, example(), formula.Next(formula.Fact(1)), api.ErrOp)
}

// checkFits checks a formula that fits a model or does not.
func checkFits(t *testing.T, m api.Model, f []api.Node, fits bool) {
	t.Helper()
	if fits {
		checkAll(t, m, f)
	} else {
		checkError(t, m, f, api.ErrRange)
	}
}
