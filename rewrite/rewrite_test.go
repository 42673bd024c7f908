package rewrite

import (
	"math"
	"math/rand/v2"
	"slices"
	"testing"

	"witting/api"
	"witting/formula"
)

// same reports whether two lists have the same nodes.
func same(f, g []api.Node) bool {
	return slices.Equal(f, g)
}

// checkResult compares the result of a function, or ErrLimit if none is wanted.
func checkResult(t *testing.T, name string, f, got []api.Node, e int, want []api.Node) {
	t.Helper()
	wantError := api.OK
	if len(want) == 0 {
		wantError = api.ErrLimit
	}
	if !same(got, want) || e != wantError {
		t.Errorf("%s of %v is %v, %d, not %v", name, f, got, e, want)
	}
}

// chain returns a formula of n nodes: an operator, again and again, before a fact.
func chain(n api.Node, fact, length int) []api.Node {
	f := []api.Node{{Op: api.OpFact, I: fact}}
	for i := range length - 1 {
		n.X = i
		f = append(f, n)
	}
	return f
}

// nots and knows return chains.
func nots(length int) []api.Node  { return chain(api.Node{Op: api.OpNot}, 0, length) }
func knows(length int) []api.Node { return chain(api.Node{Op: api.OpKnow, I: 2}, 0, length) }

// nested returns a formula with n Nexts before another one.
func nested(n int, f []api.Node) []api.Node {
	for range n {
		f = formula.Next(f)
	}
	return f
}

// loose returns a list with nodes that are not used, and equal ones: the formula Know(1, Fact 0) or its negation.
func loose(negated bool) []api.Node {
	f := []api.Node{{Op: api.OpFalse}, {Op: api.OpFact}, {Op: api.OpFact}, {Op: api.OpKnow, I: 1, X: 1}, {Op: api.OpKnow, I: 1, X: 2}}
	if negated {
		f = append(f, api.Node{Op: api.OpNot, X: 3})
	}
	return f
}

// TestExamples are the chapter's examples.
func TestExamples(t *testing.T) {
	p, q := formula.Fact(0), formula.Fact(1)
	f := formula.Not(formula.Imp(p, formula.Know(1, q)))
	got, e := Nnf(f)
	checkResult(t, "Nnf", f, got, e, formula.And(p, formula.Poss(1, formula.Not(q))))
	f = formula.Or(formula.Know(0, formula.Imp(p, p)), q)
	got, e = Simplify(f)
	checkResult(t, "Simplify", f, got, e, formula.True())
	f = formula.And(p, q)
	got, e = Subst(f, [][]api.Node{q, p})
	checkResult(t, "Subst", f, got, e, formula.And(q, p))
	list, e := Closure(formula.Not(p))
	checkList(t, "Closure", list, e, [][]api.Node{p, formula.Not(p)})
}

// functions returns the functions from formulas to formulas, with those of the chapter's definitions.
func functions() map[string][2]func(f []api.Node) ([]api.Node, int) {
	defined := func(g func(f []api.Node) []api.Node) func(f []api.Node) ([]api.Node, int) {
		return func(f []api.Node) ([]api.Node, int) { return g(f), api.OK }
	}
	to := [][]api.Node{formula.Know(0, formula.Fact(1)), loose(true), formula.True()}
	return map[string][2]func(f []api.Node) ([]api.Node, int){
		"Nnf":      {Nnf, defined(func(f []api.Node) []api.Node { return normal(f, false) })},
		"Simplify": {Simplify, defined(simplified)},
		"Core":     {Core, defined(core)},
		"Negate":   {Negate, defined(negate)},
		"Subst none": {
			func(f []api.Node) ([]api.Node, int) { return Subst(f, nil) },
			defined(formula.Compact),
		},
		"Subst two": {
			func(f []api.Node) ([]api.Node, int) { return Subst(f, to[:2]) },
			defined(func(f []api.Node) []api.Node { return subst(f, to[:2]) }),
		},
		"Subst three": {
			func(f []api.Node) ([]api.Node, int) { return Subst(f, to) },
			defined(func(f []api.Node) []api.Node { return subst(f, to) }),
		},
	}
}

// TestDefinitions is P8.1: all functions against the chapter's definitions, for all operators at all places of all operators, and random formulas.
func TestDefinitions(t *testing.T) {
	p, q := formula.Fact(0), formula.Fact(1)
	var l, inner [][]api.Node
	for _, n := range nodes() {
		inner = append(inner, built(n, p, q), built(n, q, p), built(n, formula.Not(p), p))
	}
	for _, n := range nodes() {
		for _, x := range inner {
			l = append(l, built(n, x, x))
			if _, y := usedOperands(n.Op, 1, 1); y == 0 {
				continue
			}
			for _, y := range inner {
				l = append(l, built(n, x, y))
			}
		}
	}
	r := rand.New(rand.NewPCG(8, 1))
	for i := range 3000 {
		operators := nodes()
		if i%2 == 0 {
			operators = operators[:api.OpEvery]
		}
		l = append(l, random(r, 1+r.IntN(13), operators))
	}
	for name, functions := range functions() {
		for _, f := range l {
			got, e := functions[0](f)
			want, _ := functions[1](f)
			if e != api.OK || !same(got, want) || formula.Check(got) != api.OK || !same(got, formula.Compact(got)) {
				t.Fatalf("%s of %v is %v, %d, not %v", name, f, got, e, want)
			}
		}
	}
}

// badForms returns lists that are no formulas, by their errors.
func badForms() map[int][][]api.Node {
	return map[int][][]api.Node{
		api.ErrForm:  {nil, {}, {{Op: api.OpNot}}, {{Op: api.OpTrue, Y: 1}}, {{Op: api.OpTrue}, {Op: api.OpAnd, X: math.MinInt, Y: math.MaxInt}}},
		api.ErrOp:    {{{}}, {{Op: 22}}, {{Op: -1}, {Op: api.OpTrue}}, {{Op: math.MaxInt}}},
		api.ErrRange: {{{Op: api.OpFact, I: 8}}, {{Op: api.OpFact, I: -1}}, {{Op: api.OpTrue}, {Op: api.OpEvery}}, {{Op: api.OpFact, I: 9}, {Op: api.OpTrue}}},
		api.ErrLimit: {slices.Repeat([]api.Node{{Op: api.OpTrue}}, 201), make([]api.Node, 5000)},
	}
}

// TestErrors is P8.1: what is no formula.
func TestErrors(t *testing.T) {
	for want, l := range badForms() {
		for _, f := range l {
			for name, functions := range functions() {
				if g, e := functions[0](f); len(g) != 0 || e != want {
					t.Errorf("%s of %.20v is %v, %d, not %d", name, f, g, e, want)
				}
			}
			modal, e := Modal(f)
			closure, d := Closure(f)
			if len(modal) != 0 || len(closure) != 0 || e != want || d != want {
				t.Errorf("%.20v: %v, %d; %v, %d; not %d", f, modal, e, closure, d, want)
			}
			checkSubstErrors(t, f, want)
		}
	}
}

// checkSubstErrors is P8.1 for a list that is no formula, at all places of what is substituted.
func checkSubstErrors(t *testing.T, bad []api.Node, want int) {
	t.Helper()
	p, yes := formula.Fact(0), formula.True()
	for i, c := range []struct {
		f  []api.Node
		to [][]api.Node
		e  int
	}{
		{p, [][]api.Node{bad}, want},
		{yes, [][]api.Node{bad}, want},
		{p, [][]api.Node{p, p, bad, p}, want},
		{p, append(slices.Repeat([][]api.Node{p}, 8), bad), want},
		{p, append(slices.Repeat([][]api.Node{p}, 3000), bad), want},
		{bad, [][]api.Node{p}, want},
		{bad, [][]api.Node{{{Op: 22}}}, want},
		{p, [][]api.Node{p, bad, {{Op: 22}}}, want},
		{p, [][]api.Node{{{Op: 22}}, bad}, api.ErrOp},
		{[]api.Node{{Op: 22}}, [][]api.Node{bad}, api.ErrOp},
		{knows(200), [][]api.Node{nots(2), bad}, want},
	} {
		if g, e := Subst(c.f, c.to); len(g) != 0 || e != c.e {
			t.Errorf("case %d with %.20v: %v, %d, not %d", i, bad, g, e, c.e)
		}
	}
}

// TestSubst is P8.1: facts are replaced once, all at the same time, and other facts stay.
func TestSubst(t *testing.T) {
	p, q, r := formula.Fact(0), formula.Fact(1), formula.Fact(7)
	many := slices.Repeat([][]api.Node{q}, 12)
	for i, c := range []struct {
		f    []api.Node
		to   [][]api.Node
		want []api.Node
	}{
		{p, nil, p},
		{p, [][]api.Node{formula.And(p, p)}, formula.And(p, p)},
		{q, [][]api.Node{p}, q},
		{formula.Imp(p, q), [][]api.Node{q}, formula.Imp(q, q)},
		{formula.Imp(p, q), [][]api.Node{q, r}, formula.Imp(q, r)},
		{formula.Iff(r, q), many, formula.Iff(q, q)},
		{formula.Iff(r, q), many[:7], formula.Iff(r, q)},
		{formula.Know(1, formula.True()), many, formula.Know(1, formula.True())},
		{loose(true), [][]api.Node{loose(false)}, formula.Not(formula.Know(1, formula.Know(1, p)))},
		{formula.Common(3, p, q), [][]api.Node{q, p}, formula.Common(3, q, p)},
		{formula.And(formula.Not(p), formula.Not(q)), [][]api.Node{q}, formula.And(formula.Not(q), formula.Not(q))},
		{p, [][]api.Node{knows(200)}, knows(200)},
		{formula.Not(p), [][]api.Node{knows(200)}, nil},
		{formula.Not(p), [][]api.Node{knows(199)}, formula.Not(knows(199))},
		{formula.And(p, q), [][]api.Node{knows(199), knows(199)}, formula.And(knows(199), knows(199))},
		{formula.And(p, q), [][]api.Node{knows(199), knows(20)}, formula.And(knows(199), knows(20))},
		{formula.And(p, q), [][]api.Node{knows(199), q}, nil},
		{formula.And(p, q), [][]api.Node{knows(100), chain(api.Node{Op: api.OpNext}, 1, 99)}, formula.And(knows(100), chain(api.Node{Op: api.OpNext}, 1, 99))},
		{formula.And(p, q), [][]api.Node{knows(100), chain(api.Node{Op: api.OpNext}, 1, 100)}, nil},
		{q, [][]api.Node{knows(200), q, knows(200)}, q},
		{knows(200), [][]api.Node{formula.Not(p)}, nil},
		{knows(199), [][]api.Node{formula.Not(p)}, chainBefore(formula.Not(p), 198)},
		{knows(200), [][]api.Node{formula.True()}, chainBefore(formula.True(), 199)},
		{knows(200), [][]api.Node{p, knows(200)}, knows(200)},
	} {
		got, e := Subst(c.f, c.to)
		if checkResult(t, "Subst", c.f, got, e, c.want); t.Failed() {
			t.Fatal("case", i)
		}
	}
}

// chainBefore returns a formula with n times Know before another one.
func chainBefore(f []api.Node, n int) []api.Node {
	for range n {
		f = formula.Know(2, f)
	}
	return f
}

// TestNegate is P8.1: with and without a negation, and the limit.
func TestNegate(t *testing.T) {
	p := formula.Fact(0)
	for _, c := range []struct{ f, want []api.Node }{
		{p, formula.Not(p)}, {formula.Not(p), p}, {nots(3), formula.Not(p)}, {formula.True(), formula.Not(formula.True())}, {formula.False(), formula.Not(formula.False())},
		{loose(false), formula.Not(formula.Know(1, p))}, {loose(true), formula.Know(1, p)},
		{nots(200), nots(199)}, {nots(199), nots(198)}, {knows(199), formula.Not(knows(199))}, {knows(200), nil},
		{append(slices.Repeat(p, 199), api.Node{Op: api.OpTrue}), formula.Not(formula.True())},
	} {
		got, e := Negate(c.f)
		checkResult(t, "Negate", c.f, got, e, c.want)
	}
}

// size returns the size of a result, and 0 if that is ErrLimit.
func size(t *testing.T, rewrite func(f []api.Node) ([]api.Node, int), f []api.Node) int {
	t.Helper()
	g, e := rewrite(f)
	if formula.Check(f) != api.OK || e != api.OK && e != api.ErrLimit || (e == api.OK) != (formula.Check(g) == api.OK) || !same(g, formula.Compact(g)) {
		t.Fatalf("%v: %v, %d", f, g, e)
	}
	return len(g)
}

// TestGrowing is P8.1: formulas that become larger, up to the limit.
func TestGrowing(t *testing.T) {
	p := formula.Fact(0)
	iffs, ors, imps, poss := p, p, p, p
	limited := func(n int) int {
		if n > api.MaxNodes {
			return 0
		}
		return n
	}
	for n := 1; n <= 70; n++ {
		iffs, ors, imps, poss = formula.Iff(iffs, p), formula.Or(p, ors), formula.Imp(p, imps), formula.Poss(n%4, poss)
		// An Iff has three nodes, and three more for its negation if another one uses it, besides p and Not p.
		if got := size(t, Nnf, iffs); got != limited(6*n-1) {
			t.Errorf("Nnf of %d Iffs: %d", n, got)
		}
		// The first Or has Not p in common with the others; each Imp and each Poss has three nodes of its own.
		if got := size(t, Core, ors); got != limited(3*n+1) {
			t.Errorf("Core of %d Ors: %d", n, got)
		}
		if got := size(t, Core, imps); got != limited(3*n+1) {
			t.Errorf("Core of %d Imps: %d", n, got)
		}
		if got := size(t, Core, poss); got != limited(3*n+1) {
			t.Errorf("Core of %d Posses: %d", n, got)
		}
	}
}

// TestLarge is P8.1 for the greatest formulas: only the nodes of the result count for the limit.
func TestLarge(t *testing.T) {
	p := formula.Fact(0)
	iffs, ors := p, p
	for range 33 {
		iffs = formula.Iff(iffs, p)
	}
	for range 66 {
		ors = formula.Or(p, ors)
	}
	both := func(n int) []api.Node { return formula.And(knows(n), formula.Not(knows(n))) }
	safe := api.Node{Op: api.OpSafe}
	for i, c := range []struct {
		rewrite func(f []api.Node) ([]api.Node, int)
		f       []api.Node
		size    int
	}{
		{Nnf, nested(3, iffs), 200}, {Nnf, nested(4, iffs), 0},
		{Nnf, formula.Not(knows(199)), 200}, {Nnf, knows(200), 200}, {Nnf, nots(200), 2}, {Nnf, nots(199), 1},
		{Nnf, nested(1, both(99)), 200}, {Nnf, nested(2, both(99)), 0}, {Nnf, both(100), 0},
		{Nnf, formula.Not(chain(safe, 0, 199)), 200}, {Nnf, chain(safe, 0, 200), 200},
		{Simplify, knows(200), 200}, {Simplify, nots(200), 2}, {Simplify, nots(199), 1}, {Simplify, nested(199, p), 200},
		{Simplify, formula.Imp(knows(198), formula.False()), 199},
		{Simplify, formula.And(formula.Imp(knows(196), formula.False()), formula.True()), 197},
		{Core, nested(1, ors), 200}, {Core, nested(2, ors), 0},
		{Core, knows(200), 200}, {Core, nots(200), 200}, {Core, nested(198, formula.True()), 200}, {Core, nested(199, formula.True()), 0},
	} {
		if n := size(t, c.rewrite, c.f); n != c.size {
			t.Errorf("case %d: %d nodes, not %d", i, n, c.size)
		}
	}
}

// doubled returns a formula of n nodes whose tree is twice as large with each node.
func doubled(n int, operators ...int) []api.Node {
	f := []api.Node{{Op: api.OpFact}, {Op: api.OpFact, I: 1}, {Op: api.OpOr, X: 0, Y: 1}}
	for i := 3; i < n; i++ {
		f = append(f, api.Node{Op: operators[i%len(operators)], X: i - 1, Y: i - 2})
	}
	return f
}

// TestShared is P1 of DOC.md: each subformula is rewritten once, however often it is used.
func TestShared(t *testing.T) {
	for _, operators := range [][]int{{api.OpAnd}, {api.OpImp, api.OpOr}, {api.OpIff}, {api.OpIff, api.OpAnd, api.OpUntil}} {
		for _, n := range []int{20, 60, 200} {
			f := doubled(n, operators...)
			for _, functions := range functions() {
				size(t, functions[0], f)
			}
			if l, e := Closure(f); e == api.OK && len(l) != 2*n || (e == api.ErrLimit) != (n == 200) {
				t.Errorf("Closure of %d nodes: %d, %d", n, len(l), e)
			}
		}
	}
}
