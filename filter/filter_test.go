package filter_test

import (
	"math/rand/v2"
	"slices"
	"testing"

	"witting/api"
	"witting/filter"
	"witting/formula"
	"witting/model"
)

// filtration is the type of Smallest, Largest and Transitive.
type filtration func(m api.Model, f []api.Node) (api.Model, []int, int)

// filtrations returns these functions, in the order of conditions.
func filtrations() []filtration {
	return []filtration{filter.Smallest, filter.Largest, filter.Transitive}
}

// checkModel checks the results of a filtration.
func checkModel(t *testing.T, filtrate filtration, m api.Model, f []api.Node, want api.Model, numbers []int) {
	t.Helper()
	if q, l, e := filtrate(m, f); !model.Same(q, want) || !slices.Equal(l, numbers) || e != api.OK {
		t.Errorf("of %v through %v: %v, %v, %d, not %v, %v", m, f, q, l, e, want, numbers)
	}
}

// checkClasses checks the result of Classes.
func checkClasses(t *testing.T, m api.Model, f []api.Node, want []int) {
	t.Helper()
	if p, e := filter.Classes(m, f); !slices.Equal(p, want) || e != api.OK {
		t.Errorf("Classes(%v, %v) is %v, %d, not %v", m, f, p, e, want)
	}
}

// TestExamples are the chapter's examples.
func TestExamples(t *testing.T) {
	checkClasses(t, example(), possible(), []int{0, 0, 2, 3})
	numbers := []int{0, 0, 1, 2}
	checkModel(t, filter.Smallest, example(), possible(), api.Model{Worlds: 3, Val: []uint64{4}, Rel: [][]uint64{{3, 4, 0}}}, numbers)
	checkModel(t, filter.Largest, example(), possible(), api.Model{Worlds: 3, Val: []uint64{4}, Rel: [][]uint64{{3, 7, 3}}}, numbers)
	p := formula.Fact(0)
	checkClasses(t, example(), p, []int{0, 0, 0, 3})
	numbers = []int{0, 0, 0, 1}
	checkModel(t, filter.Smallest, example(), p, api.Model{Worlds: 2, Val: []uint64{2}, Rel: [][]uint64{{3, 0}}}, numbers)
	checkModel(t, filter.Largest, example(), p, api.Model{Worlds: 2, Val: []uint64{2}, Rel: [][]uint64{{3, 3}}}, numbers)
	for _, f := range [][]api.Node{possible(), p} {
		if q, l, e := filter.Transitive(example(), f); !isZero(q) || len(l) != 0 || e != api.ErrLogic {
			t.Errorf("Transitive through %v is %v, %v, %d", f, q, l, e)
		}
	}
}

// checkAll compares all functions with the chapter's definitions, and reports whether the three relations differ.
func checkAll(t *testing.T, m api.Model, f []api.Node) bool {
	t.Helper()
	checkClasses(t, m, f, classesOf(m, f))
	rows := [][][]uint64{}
	for i, leads := range conditions(m, f) {
		filtrate := filtrations()[i]
		if i == 2 && !isTransitive(m) {
			if q, l, e := filtrate(m, f); !isZero(q) || len(l) != 0 || e != api.ErrLogic {
				t.Errorf("Transitive(%v, %v) is %v, %v, %d", m, f, q, l, e)
			}
			return false
		}
		want, numbers := filtrationOf(m, f, leads)
		checkModel(t, filtrate, m, f, want, numbers)
		rows = append(rows, want.Rel)
	}
	equal := func(a, b [][]uint64) bool { return slices.EqualFunc(a, b, slices.Equal[[]uint64]) }
	return !equal(rows[0], rows[2]) && !equal(rows[1], rows[2])
}

// TestSmall is P23.1 and P23.2: all lists of up to three nodes in all models of up to two worlds, with a fact and an agent.
func TestSmall(t *testing.T) {
	for _, m := range slices.Concat(small(1), small(2)) {
		for _, f := range allFormulas(3) {
			checkAll(t, m, f)
		}
	}
}

// TestThreeWorlds is P23.1 and P23.2: all models of three worlds with a fact and an agent.
func TestThreeWorlds(t *testing.T) {
	r := rand.New(rand.NewPCG(23, 2))
	p := formula.Fact(0)
	fixed := [][]api.Node{formula.Know(0, p), possible(), formula.Know(0, formula.Poss(0, p))}
	for _, m := range small(3) {
		for _, f := range fixed {
			checkAll(t, m, f)
		}
		checkAll(t, m, randomFormula(r, 1+r.IntN(12), 1, 1))
	}
}

// TestRandom is P23.1 and P23.2: random formulas in models of all sizes.
func TestRandom(t *testing.T) {
	r := rand.New(rand.NewPCG(23, 3))
	differ := 0
	for _, m := range samples(t) {
		for range 12 {
			for _, size := range []int{1 + r.IntN(6), 1 + r.IntN(30)} {
				if checkAll(t, m, randomFormula(r, size, len(m.Rel), len(m.Val))) {
					differ++
				}
			}
		}
		checkAll(t, m, randomFormula(r, 200, len(m.Rel), len(m.Val)))
	}
	if differ < 100 {
		t.Error("cases in which all relations differ:", differ)
	}
}

// TestUnused is P23.1 and P23.2: facts and agents that do not occur, and nodes that the whole formula does not use.
func TestUnused(t *testing.T) {
	m := api.Model{Worlds: 3, Val: []uint64{1, 6, 2}, Rel: [][]uint64{{2, 0, 0}, {4, 4, 4}, {0, 0, 0}}}
	q, p := formula.Fact(1), api.Node{Op: api.OpFact, I: 1}
	f := formula.Know(1, q)
	numbers := []int{0, 1, 1}
	checkClasses(t, m, f, []int{0, 1, 1})
	checkModel(t, filter.Smallest, m, f, api.Model{Worlds: 2, Val: []uint64{0, 2, 0}, Rel: [][]uint64{{2, 0}, {2, 2}, {0, 0}}}, numbers)
	checkModel(t, filter.Largest, m, f, api.Model{Worlds: 2, Val: []uint64{0, 2, 0}, Rel: [][]uint64{{3, 3}, {2, 2}, {3, 3}}}, numbers)
	checkModel(t, filter.Transitive, m, f, api.Model{Worlds: 2, Val: []uint64{0, 2, 0}, Rel: [][]uint64{{3, 3}, {2, 2}, {3, 3}}}, numbers)
	for _, unused := range [][]api.Node{
		{{Op: api.OpFact, I: 7}}, {{Op: api.OpFact}}, {{Op: api.OpFact}, {Op: api.OpKnow}}, {{Op: api.OpFact, I: 2}, {Op: api.OpPoss, I: 3}}, {{Op: api.OpTrue}, {Op: api.OpNext}}, {{Op: api.OpFact, I: 2}, {Op: api.OpEvery, G: 15}},
	} {
		list := append(slices.Clone(unused), p, api.Node{Op: api.OpKnow, I: 1, X: len(unused)})
		if !formula.Same(list, f) {
			t.Fatal(list)
		}
		checkAll(t, m, list)
		checkClasses(t, m, list, []int{0, 1, 1})
		for _, filtrate := range filtrations() {
			want, _, _ := filtrate(m, f)
			checkModel(t, filtrate, m, list, want, numbers)
		}
	}
}

// TestLimits is P23.1 and P23.2: as many classes as there are worlds, and a node of each place in formulas of the greatest size that alone divides the worlds.
func TestLimits(t *testing.T) {
	m := chain(64)
	f := formula.Fact(0)
	for range 63 {
		f = formula.Poss(0, f)
	}
	identity := []int{}
	for w := range 64 {
		identity = append(identity, w)
	}
	checkClasses(t, m, f, identity)
	checkModel(t, filter.Smallest, m, f, m, identity)
	checkAll(t, m, f)
	two := api.Model{Worlds: 2, Val: []uint64{2}, Rel: [][]uint64{{3, 2}}}
	for place := 1; place < 199; place++ {
		f := []api.Node{{Op: api.OpTrue}}
		for len(f) < place {
			f = append(f, api.Node{Op: api.OpNot, X: len(f) - 1})
		}
		f = append(f, api.Node{Op: api.OpFact}, api.Node{Op: api.OpAnd, X: place - 1, Y: place})
		for len(f) < 200 {
			// The fact has no influence on what stands behind it.
			f = append(f, api.Node{Op: api.OpOr, X: len(f) - 1})
		}
		if formula.Size(f) != 200 {
			t.Fatal(place, formula.Size(f))
		}
		checkClasses(t, two, f, []int{0, 1})
	}
	if q, l, e := filter.Smallest(api.Model{Worlds: 64}, formula.False()); !model.Same(q, api.Model{Worlds: 1}) || !slices.Equal(l, make([]int, 64)) || e != api.OK {
		t.Error("a model without facts and agents:", q, l, e)
	}
}

// checkError checks that all functions return an error.
func checkError(t *testing.T, m api.Model, f []api.Node, want int) {
	t.Helper()
	if p, e := filter.Classes(m, f); len(p) != 0 || e != want {
		t.Errorf("Classes(%v, %v) is %v, %d, not %d", m, f, p, e, want)
	}
	for i, filtrate := range filtrations() {
		if q, l, e := filtrate(m, f); !isZero(q) || len(l) != 0 || e != want {
			t.Errorf("function %d of %v, %v: %v, %v, %d, not %d", i, m, f, q, l, e, want)
		}
	}
}

// TestErrors is P23.1: the errors in their order, all before ErrLogic.
func TestErrors(t *testing.T) {
	other := formula.Fact(1)
	each(notValid(), func(m api.Model, e int) {
		for _, f := range [][]api.Node{formula.Fact(0), formula.Next(other), other, nil, {{Op: 22}}} {
			checkError(t, m, f, e)
		}
	})
	each(noFormulas(), func(f []api.Node, e int) {
		checkError(t, example(), f, e)
		// Neither an operator that is not in the language nor a fact that there is not comes before this.
		if len(f) > 0 && len(f) < 200 {
			checkError(t, example(), append(slices.Clone(f), api.Node{Op: api.OpFact, I: 1}, api.Node{Op: api.OpNext, X: len(f)}), e)
		}
	})
	for op := api.OpEvery; op <= api.OpSince; op++ {
		n := api.Node{Op: op}
		if op <= api.OpCommon {
			n.G = 1
		}
		for _, p := range []api.Node{{Op: api.OpFact}, {Op: api.OpFact, I: 7}} {
			checkError(t, example(), []api.Node{p, n}, api.ErrOp)
			checkError(t, example(), []api.Node{p, n, {Op: api.OpKnow, X: 1}}, api.ErrOp)
			checkError(t, example(), []api.Node{p, n, {Op: api.OpPoss, I: 3}, {Op: api.OpAnd, X: 2, Y: 1}}, api.ErrOp)
		}
	}
}

// TestErrorRange is P23.1: formulas with facts or agents that the model does not have.
func TestErrorRange(t *testing.T) {
	r := rand.New(rand.NewPCG(23, 4))
	check := func(m api.Model, f []api.Node, fits bool) {
		t.Helper()
		if fits {
			checkAll(t, m, f)
		} else {
			checkError(t, m, f, api.ErrRange)
		}
	}
	for agents := range 5 {
		for facts := range 9 {
			m := random(r, 3, facts, agents)
			for i := range 8 {
				check(m, formula.Fact(i), i < facts)
				check(m, formula.Not(formula.Or(formula.True(), formula.Fact(i))), i < facts)
			}
			for a := range 4 {
				check(m, formula.Know(a, formula.True()), a < agents)
				check(m, formula.Poss(a, formula.Fact(0)), a < agents && facts > 0)
			}
		}
	}
}

// TestErrorLogic is P23.2: one relation that is not transitive, also if its agent does not occur.
func TestErrorLogic(t *testing.T) {
	for agent := range 4 {
		m := api.Model{Worlds: 3, Val: []uint64{4}, Rel: slices.Repeat([][]uint64{{6, 4, 0}}, 4)}
		for _, f := range [][]api.Node{formula.True(), formula.Fact(0), formula.Know(0, formula.Fact(0)), formula.Poss(3, formula.Fact(0))} {
			checkAll(t, m, f)
			if _, _, e := filter.Transitive(m, f); e != api.OK {
				t.Errorf("Transitive(%v, %v): %d", m, f, e)
			}
			broken := m
			broken.Rel = slices.Clone(m.Rel)
			broken.Rel[agent] = []uint64{2, 4, 0}
			checkAll(t, broken, f)
			if q, l, e := filter.Transitive(broken, f); !isZero(q) || len(l) != 0 || e != api.ErrLogic {
				t.Errorf("Transitive(%v, %v): %v, %v, %d", broken, f, q, l, e)
			}
		}
	}
}
