package boolean_test

import (
	"math/rand/v2"
	"slices"
	"testing"

	"witting/api"
	"witting/boolean"
	"witting/formula"
	"witting/rewrite"
)

// checkAtoms compares the atoms of a formula.
func checkAtoms(t *testing.T, f []api.Node, want [][]api.Node) {
	t.Helper()
	if l, e := boolean.Atoms(f); e != api.OK || !slices.EqualFunc(l, want, slices.Equal[[]api.Node]) {
		t.Errorf("the atoms of %.20v: %v, %d, not %v", f, l, e, want)
	}
}

// checkTautology compares what Tautology reports.
func checkTautology(t *testing.T, f []api.Node, want bool) {
	t.Helper()
	if valid, e := boolean.Tautology(f); valid != want || e != api.OK {
		t.Errorf("%v: %t, %d", f, valid, e)
	}
}

// TestAtoms is P9.3: the order in which atoms are met, each once, and none within another one only.
func TestAtoms(t *testing.T) {
	p, q, r := formula.Fact(0), formula.Fact(1), formula.Fact(7)
	k, m := formula.Know(0, formula.And(p, formula.Not(q))), formula.Announce(p, formula.Next(q))
	for _, c := range []struct {
		f    []api.Node
		want [][]api.Node
	}{
		{formula.True(), nil}, {formula.Not(formula.False()), nil}, {formula.Imp(formula.True(), formula.False()), nil},
		{p, [][]api.Node{p}}, {r, [][]api.Node{r}}, {formula.Not(formula.Not(q)), [][]api.Node{q}},
		{formula.And(q, p), [][]api.Node{q, p}}, {formula.Or(p, p), [][]api.Node{p}}, {formula.Iff(formula.Imp(r, p), formula.And(q, r)), [][]api.Node{r, p, q}},
		{k, [][]api.Node{k}}, {formula.Not(m), [][]api.Node{m}},
		{formula.And(k, q), [][]api.Node{k, q}}, {formula.And(q, k), [][]api.Node{q, k}}, {formula.Or(k, formula.Imp(m, p)), [][]api.Node{k, m, p}},
		{formula.Iff(formula.Not(m), formula.Or(k, formula.And(m, k))), [][]api.Node{m, k}},
		{formula.Know(0, k), [][]api.Node{formula.Know(0, k)}}, {formula.And(formula.Know(0, k), k), [][]api.Node{formula.Know(0, k), k}},
		{formula.And(formula.And(p, q), formula.And(p, q)), [][]api.Node{p, q}},
	} {
		checkAtoms(t, c.f, c.want)
	}
}

// TestAtomsOfOperators is P9.3: which operators are looked through, all of them at both places.
func TestAtomsOfOperators(t *testing.T) {
	x, y := formula.Fact(3), formula.Fact(2)
	for _, node := range append(propositional(), modal()...) {
		f := []api.Node{x[0], y[0], node}
		if f[2].X = 0; hasY(node.Op) {
			f[2].Y = 1
		}
		switch {
		case node.Op == api.OpNot:
			checkAtoms(t, f, [][]api.Node{x})
		case node.Op <= api.OpIff:
			checkAtoms(t, f, [][]api.Node{x, y})
		default:
			checkAtoms(t, f, [][]api.Node{formula.Compact(f)})
			checkAtoms(t, formula.Imp(formula.Not(f), y), [][]api.Node{formula.Compact(f), y})
		}
	}
}

// TestRandomAtoms is P9.3 and P9.4: against the chapter's definitions.
func TestRandomAtoms(t *testing.T) {
	r := rand.New(rand.NewPCG(9, 3))
	valid := 0
	for i := range 6000 {
		operators := slices.Concat(propositional(), propositional(), modal())
		f := random(r, r.IntN(12), i%3, operators)
		if i%4 == 0 {
			f = formula.Imp(f, formula.Or(f, formula.Fact(5)))
		}
		if checkAtoms(t, f, atomsOf(f)); len(atomsOf(f)) > 10 {
			t.Fatal("too many atoms:", f)
		}
		want := isTautology(f)
		if checkTautology(t, f, want); want {
			valid++
		}
		if t.Failed() {
			t.FailNow()
		}
	}
	if valid < 1000 || valid > 5000 {
		t.Error("tautologies:", valid)
	}
}

// atom returns one of different atoms: facts, and modal formulas.
func atom(i int) []api.Node {
	switch {
	case i < 8:
		return formula.Fact(i)
	case i%2 == 0:
		return formula.Know(i/2%4, formula.Fact(i/8))
	}
	return formula.Poss(i/2%4, formula.Fact(i/8))
}

// literal returns an atom, or its negation.
func literal(i int, positive bool) []api.Node {
	if positive {
		return atom(i)
	}
	return formula.Not(atom(i))
}

// TestTautologyOfMany is P9.4: up to 10 atoms, with each single valuation at which the formula is false.
func TestTautologyOfMany(t *testing.T) {
	for n := range 11 {
		for v := range 1 << n {
			var l, opposite [][]api.Node
			for i := range n {
				// The modal atoms come first.
				l = append(l, literal(17-i, v>>i&1 == 0))
				opposite = append(opposite, literal(17-i, v>>i&1 == 1))
			}
			f := formula.Any(l)
			checkTautology(t, f, false)
			checkTautology(t, formula.Or(f, formula.All(opposite)), true)
			if t.Failed() {
				t.Fatal("atoms and valuation:", n, v)
			}
		}
	}
}

// TestTautologyLimit is P9.4: equal atoms count once, and those within others, or in nodes that are not used, do not count.
func TestTautologyLimit(t *testing.T) {
	var l [][]api.Node
	for i := range 30 {
		l = append(l, formula.Or(atom(i), formula.Not(atom(i))))
	}
	for n := range 31 {
		want, wantError := true, api.OK
		if n > 10 {
			want, wantError = false, api.ErrLimit
		}
		for _, f := range [][]api.Node{formula.All(l[:n]), formula.Or(formula.True(), formula.Any(l[:n]))} {
			if valid, e := boolean.Tautology(f); valid != want || e != wantError {
				t.Errorf("%d atoms: %t, %d", n, valid, e)
			}
		}
	}
	inner := formula.Know(0, formula.All(l[:20]))
	checkTautology(t, formula.Imp(inner, formula.And(inner, formula.All(l[:9]))), true)
	checkTautology(t, formula.Or(inner, formula.Iff(atom(0), formula.Know(1, inner))), false)
	twice := formula.All(append(slices.Clone(l[8:18]), l[8:18]...))
	checkTautology(t, twice, true)
	unused := append(slices.Clone(twice), formula.Any(l[:8])[:8]...)
	checkTautology(t, append(unused, api.Node{Op: api.OpNot, X: 0}), false)
	if valid, e := boolean.Tautology(formula.And(twice, atom(7))); valid || e != api.ErrLimit {
		t.Error("an atom more:", valid, e)
	}
}

// TestAtomErrors is P9.3 and P9.4: what is no formula.
func TestAtomErrors(t *testing.T) {
	for want, l := range badForms() {
		for _, f := range l {
			if atoms, e := boolean.Atoms(f); len(atoms) != 0 || e != want {
				t.Errorf("Atoms of %.20v: %v, %d, not %d", f, atoms, e, want)
			}
			if valid, e := boolean.Tautology(f); valid || e != want {
				t.Errorf("Tautology of %.20v: %t, %d, not %d", f, valid, e, want)
			}
		}
	}
}

// TestSharedAtoms is P1 of DOC.md: each node is met once, however often it is used, and long formulas are permitted.
func TestSharedAtoms(t *testing.T) {
	checkAtoms(t, doubled(200), [][]api.Node{formula.Fact(0), formula.Fact(1)})
	checkTautology(t, formula.Not(formula.And(doubled(190), formula.Not(doubled(190)))), true)
	f := formula.Fact(4)
	for range 199 {
		f = formula.Not(f)
	}
	checkAtoms(t, f, [][]api.Node{formula.Fact(4)})
	checkTautology(t, f, false)
}

// TestReplaced is P9.6: a tautology stays one if its facts are replaced by formulas, also those within its other atoms.
func TestReplaced(t *testing.T) {
	r := rand.New(rand.NewPCG(9, 4))
	operators := slices.Concat(propositional(), propositional(), modal())
	valid := 0
	for range 20000 {
		f := random(r, 2+r.IntN(9), 2, operators)
		if is, e := boolean.Tautology(f); !is || e != api.OK {
			continue
		}
		valid++
		to := [][]api.Node{random(r, r.IntN(6), 2, operators), formula.Know(0, formula.Fact(0))}
		g, e := rewrite.Subst(f, to)
		if e != api.OK {
			t.Fatal(f, to, e)
		}
		if checkTautology(t, g, true); t.Failed() {
			t.Fatal(f, to)
		}
	}
	if valid < 1000 {
		t.Error("tautologies:", valid)
	}
}
