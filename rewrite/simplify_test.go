package rewrite

import (
	"testing"

	"witting/api"
	"witting/formula"
)

// rule is a rule of Simplify: a formula, and what becomes of it.
type rule struct{ f, want []api.Node }

// checkRules compares the results of Simplify.
func checkRules(t *testing.T, rules []rule) {
	t.Helper()
	for _, c := range rules {
		got, e := Simplify(c.f)
		checkResult(t, "Simplify", c.f, got, e, c.want)
	}
}

// TestSimplifyNot is P8.1 for Not.
func TestSimplifyNot(t *testing.T) {
	p, yes, no := formula.Fact(0), formula.True(), formula.False()
	not := formula.Not
	checkRules(t, []rule{
		{not(yes), no}, {not(no), yes}, {not(p), not(p)}, {not(not(p)), p}, {not(not(not(p))), not(p)}, {not(not(yes)), yes},
		{not(formula.And(not(p), yes)), p}, {not(formula.Know(0, not(p))), not(formula.Know(0, not(p)))},
	})
}

// TestSimplifyJoins is P8.1 for And and Or.
func TestSimplifyJoins(t *testing.T) {
	p, q, yes, no := formula.Fact(0), formula.Fact(1), formula.True(), formula.False()
	not, and, or := formula.Not, formula.And, formula.Or
	checkRules(t, []rule{
		{and(p, q), and(p, q)}, {and(no, p), no}, {and(p, no), no}, {and(yes, p), p}, {and(p, yes), p}, {and(p, p), p}, {and(p, not(p)), no}, {and(not(p), p), no},
		{and(yes, yes), yes}, {and(no, no), no}, {and(yes, no), no}, {and(no, yes), no}, {and(not(p), not(p)), not(p)}, {and(p, not(q)), and(p, not(q))},
		{or(p, q), or(p, q)}, {or(yes, p), yes}, {or(p, yes), yes}, {or(no, p), p}, {or(p, no), p}, {or(p, p), p}, {or(p, not(p)), yes}, {or(not(p), p), yes},
		{or(yes, yes), yes}, {or(no, no), no}, {or(yes, no), yes}, {or(no, yes), yes}, {or(not(p), not(p)), not(p)}, {or(p, not(q)), or(p, not(q))},
		{and(and(p, q), and(p, q)), and(p, q)}, {and(and(p, q), and(q, p)), and(and(p, q), and(q, p))}, {or(and(p, q), not(and(p, q))), yes}, {and(and(p, q), p), and(and(p, q), p)},
		{and(not(not(p)), p), p}, {or(not(not(p)), not(p)), yes}, {and(or(p, p), or(no, p)), p}, {and(or(p, yes), q), q}, {or(and(p, no), not(yes)), no},
	})
}

// TestSimplifyArrows is P8.1 for Imp and Iff.
func TestSimplifyArrows(t *testing.T) {
	p, q, yes, no := formula.Fact(0), formula.Fact(1), formula.True(), formula.False()
	not, imp, iff := formula.Not, formula.Imp, formula.Iff
	checkRules(t, []rule{
		{imp(p, q), imp(p, q)}, {imp(no, p), yes}, {imp(p, yes), yes}, {imp(p, p), yes}, {imp(yes, p), p}, {imp(p, no), not(p)}, {imp(not(p), no), p},
		{imp(no, no), yes}, {imp(yes, no), no}, {imp(no, yes), yes}, {imp(yes, yes), yes}, {imp(p, not(p)), imp(p, not(p))}, {imp(not(p), p), imp(not(p), p)},
		{iff(p, q), iff(p, q)}, {iff(p, p), yes}, {iff(p, not(p)), no}, {iff(not(p), p), no}, {iff(yes, p), p}, {iff(p, yes), p}, {iff(no, p), not(p)}, {iff(p, no), not(p)},
		{iff(no, not(p)), p}, {iff(not(p), no), p}, {iff(yes, no), no}, {iff(no, yes), no}, {iff(no, no), yes}, {iff(yes, yes), yes}, {iff(not(p), not(q)), iff(not(p), not(q))},
		{imp(imp(p, no), no), p}, {imp(imp(p, p), q), q}, {iff(imp(p, no), not(p)), yes}, {iff(imp(p, no), p), no}, {imp(iff(no, p), q), imp(not(p), q)},
	})
}

// TestSimplifyModal is P8.1 for all other operators.
func TestSimplifyModal(t *testing.T) {
	p, q, yes, no := formula.Fact(0), formula.Fact(1), formula.True(), formula.False()
	know := func(f []api.Node) []api.Node { return formula.Know(2, f) }
	poss := func(f []api.Node) []api.Node { return formula.Poss(3, f) }
	checkRules(t, []rule{{know(yes), yes}, {know(no), know(no)}, {know(p), know(p)}, {poss(no), no}, {poss(yes), poss(yes)}, {poss(p), poss(p)}})
	for _, box := range []func(f []api.Node) []api.Node{
		know,
		func(f []api.Node) []api.Node { return formula.Every(5, f) },
		func(f []api.Node) []api.Node { return formula.Dist(6, f) },
		func(f []api.Node) []api.Node { return formula.Safe(1, f) },
		func(f []api.Node) []api.Node { return formula.Act(2, 3, f) },
	} {
		checkRules(t, []rule{{box(yes), yes}, {box(no), box(no)}, {box(p), box(p)}, {box(box(formula.Imp(p, p))), yes}, {box(formula.And(p, p)), box(p)}})
	}
	for _, join := range []func(f, g []api.Node) []api.Node{
		func(f, g []api.Node) []api.Node { return formula.Common(3, f, g) },
		func(f, g []api.Node) []api.Node { return formula.Belief(1, f, g) },
	} {
		checkRules(t, []rule{
			{join(no, p), yes}, {join(p, yes), yes}, {join(no, no), yes}, {join(yes, yes), yes}, {join(no, yes), yes},
			{join(yes, p), join(yes, p)}, {join(p, no), join(p, no)}, {join(yes, no), join(yes, no)}, {join(p, p), join(p, p)}, {join(formula.Or(p, p), q), join(p, q)},
		})
	}
	announce := formula.Announce
	checkRules(t, []rule{
		{announce(no, p), yes}, {announce(p, yes), yes}, {announce(no, no), yes}, {announce(yes, yes), yes}, {announce(yes, p), p}, {announce(yes, no), no},
		{announce(p, no), announce(p, no)}, {announce(p, q), announce(p, q)}, {announce(p, p), announce(p, p)}, {announce(formula.Imp(p, p), formula.Or(q, q)), q},
	})
	next, prev, until, since := formula.Next, formula.Prev, formula.Until, formula.Since
	for _, f := range [][]api.Node{
		next(yes), next(no), prev(yes), prev(no), until(yes, p), until(p, yes), until(no, p), until(p, no), until(p, p),
		since(yes, p), since(p, yes), since(no, p), since(p, no), since(p, p),
	} {
		checkRules(t, []rule{{f, f}, {formula.And(f, f), f}})
	}
}
