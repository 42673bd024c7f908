package boolean_test

import (
	"math"
	"math/rand/v2"
	"slices"
	"testing"

	"witting/api"
	"witting/boolean"
	"witting/formula"
)

// TestExamples are the chapter's examples.
func TestExamples(t *testing.T) {
	p, q := formula.Fact(0), formula.Fact(1)
	if w, e := boolean.Table(formula.Imp(p, q), 2); w != 13 || e != api.OK {
		t.Error("p -> q of 2 facts:", w, e)
	}
	if w, e := boolean.Table(formula.Imp(p, q), 3); w != 221 || e != api.OK {
		t.Error("p -> q of 3 facts:", w, e)
	}
	k := formula.Know(0, p)
	checkAtoms(t, formula.And(k, formula.Imp(q, k)), [][]api.Node{k, q})
	checkTautology(t, formula.Imp(k, k), true)
	checkTautology(t, formula.Imp(k, p), false)
	checkImplicants(t, 13, 2, []api.Cube{{Care: 1, Value: 0}, {Care: 2, Value: 2}})
	checkImplicants(t, 0, 2, nil)
	checkImplicants(t, 15, 2, []api.Cube{{}})
}

// TestTable is P9.1: each operator, each fact, each number of facts.
func TestTable(t *testing.T) {
	p, q := formula.Fact(0), formula.Fact(1)
	for i, c := range []struct {
		f    []api.Node
		n    int
		want uint64
	}{
		{formula.True(), 0, 1}, {formula.False(), 0, 0}, {formula.Not(formula.True()), 0, 0}, {formula.Not(formula.False()), 0, 1},
		{formula.True(), 1, 3}, {formula.True(), 5, math.MaxUint32}, {formula.True(), 6, math.MaxUint64}, {formula.False(), 6, 0},
		{p, 1, 2}, {p, 2, 10}, {p, 3, 0xaa}, {p, 6, 0xaaaaaaaaaaaaaaaa}, {formula.Not(p), 1, 1}, {formula.Not(p), 6, 0x5555555555555555},
		{q, 2, 12}, {q, 6, 0xcccccccccccccccc}, {formula.Fact(2), 3, 0xf0}, {formula.Fact(2), 6, 0xf0f0f0f0f0f0f0f0},
		{formula.Fact(3), 4, 0xff00}, {formula.Fact(3), 6, 0xff00ff00ff00ff00}, {formula.Fact(4), 5, 0xffff0000},
		{formula.Fact(4), 6, 0xffff0000ffff0000}, {formula.Fact(5), 6, 0xffffffff00000000},
		{formula.And(p, q), 2, 8}, {formula.Or(p, q), 2, 14}, {formula.Imp(q, p), 2, 11}, {formula.Iff(p, q), 2, 9}, {formula.Iff(p, q), 4, 0x9999},
	} {
		if w, e := boolean.Table(c.f, c.n); w != c.want || e != api.OK {
			t.Errorf("case %d: %x, %d, not %x", i, w, e, c.want)
		}
	}
}

// TestRandomTables is P9.1, and P9.6 for negations and tautologies: against the meaning of the operators.
func TestRandomTables(t *testing.T) {
	r := rand.New(rand.NewPCG(9, 1))
	for range 1000 {
		facts := r.IntN(7)
		f := random(r, r.IntN(12), facts, propositional())
		for n := facts; n <= 6; n++ {
			want := tableOf(f, n)
			if w, e := boolean.Table(f, n); w != want || e != api.OK {
				t.Fatalf("%v of %d facts: %x, %d, not %x", f, n, w, e, want)
			}
			if w, e := boolean.Table(formula.Not(f), n); w != full(n)&^want || e != api.OK {
				t.Fatalf("the negation of %v: %x, %d", f, w, e)
			}
			if valid, e := boolean.Tautology(f); valid != (want == full(n)) || e != api.OK {
				t.Fatalf("Tautology of %v: %t, %d", f, valid, e)
			}
		}
	}
}

// TestTableOfShared is P9.1 and P1 of DOC.md: nodes that are used by several ones are evaluated once.
func TestTableOfShared(t *testing.T) {
	for _, n := range []int{10, 20, 200} {
		w, e := boolean.Table(doubled(n), 2)
		if e != api.OK || n <= 20 && w != tableOf(doubled(n), 2) {
			t.Errorf("%d nodes: %x, %d", n, w, e)
		}
	}
}

// TestTableErrors is P9.1: the errors, in their order.
func TestTableErrors(t *testing.T) {
	check := func(name string, f []api.Node, n, want int) {
		t.Helper()
		if w, e := boolean.Table(f, n); w != 0 || e != want {
			t.Errorf("%s, %d facts: %x, %d, not %d", name, n, w, e, want)
		}
	}
	for want, l := range badForms() {
		for _, f := range l {
			for _, n := range append(noNumbers(), 0, 3, 6) {
				check("no formula", f, n, want)
			}
		}
	}
	for _, node := range modal() {
		f := []api.Node{{Op: api.OpFact, I: 7}, {Op: api.OpTrue}, node}
		under := append(slices.Clone(f), api.Node{Op: api.OpNot, X: 2}, api.Node{Op: api.OpAnd, X: 1, Y: 3})
		for _, n := range append(noNumbers(), 0, 3, 6) {
			check("a modal operator", f, n, api.ErrOp)
			check("a modal operator below", under, n, api.ErrOp)
		}
	}
	for _, n := range noNumbers() {
		check("true", formula.True(), n, api.ErrRange)
		check("a fact", formula.Fact(0), n, api.ErrRange)
	}
	for i := range 8 {
		for n := range min(i+1, 7) {
			check("a fact", formula.Fact(i), n, api.ErrRange)
			check("a fact below", formula.Or(formula.True(), formula.Not(formula.Fact(i))), n, api.ErrRange)
		}
	}
}

// TestTableOfUnused is P9.1: only the nodes of the compact list count.
func TestTableOfUnused(t *testing.T) {
	f := []api.Node{{Op: api.OpFact, I: 7}, {Op: api.OpTrue}}
	for _, node := range modal() {
		f = append(f, node)
	}
	f = append(f, api.Node{Op: api.OpFact}, api.Node{Op: api.OpNot, X: len(f)})
	if w, e := boolean.Table(f, 1); w != 1 || e != api.OK {
		t.Error(w, e)
	}
	if valid, e := boolean.Tautology(f); valid || e != api.OK {
		t.Error(valid, e)
	}
	checkAtoms(t, f, [][]api.Node{formula.Fact(0)})
}

// TestFromTable is P9.2, and P9.6 for the table of the result.
func TestFromTable(t *testing.T) {
	r := rand.New(rand.NewPCG(9, 2))
	for n := range 7 {
		for _, w := range tables(r, n) {
			f, e := boolean.FromTable(w, n)
			if e != api.OK || formula.Check(f) != api.OK || !slices.Equal(f, formula.Compact(f)) || formula.Frags(f) != 0 || !formula.Fits(f, 0, n) {
				t.Fatalf("%x of %d facts: %v, %d", w, n, f, e)
			}
			if got, e := boolean.Table(f, n); got != w || e != api.OK || n <= 4 && tableOf(f, n) != w {
				t.Fatalf("%x of %d facts: %v has the table %x, %d", w, n, f, got, e)
			}
		}
	}
}

// TestTableArguments is P9.2 and P9.5: the errors, in their order.
func TestTableArguments(t *testing.T) {
	check := func(w uint64, n, want int) {
		t.Helper()
		if f, e := boolean.FromTable(w, n); len(f) != 0 || e != want {
			t.Errorf("FromTable(%x, %d): %v, %d, not %d", w, n, f, e, want)
		}
		if l, e := boolean.Implicants(w, n); len(l) != 0 || e != want {
			t.Errorf("Implicants(%x, %d): %v, %d, not %d", w, n, l, e, want)
		}
	}
	for _, n := range noNumbers() {
		for _, w := range []uint64{0, 1, 2, 1 << 63, math.MaxUint64} {
			check(w, n, api.ErrRange)
		}
	}
	for n := range 6 {
		for bit := size(n); bit < 64; bit++ {
			check(1<<bit, n, api.ErrArg)
			check(1<<bit|1, n, api.ErrArg)
		}
		check(math.MaxUint64, n, api.ErrArg)
	}
}

// TestMemory is the rule 'Values' of DOC.md: arguments stay as they are, and results share nothing.
func TestMemory(t *testing.T) {
	mark := api.Node{Op: 99}
	k := formula.Know(0, formula.Fact(0))
	whole := append(formula.Imp(k, formula.Or(formula.Fact(1), formula.Fact(0))), mark, mark)
	f, kept := whole[:len(whole)-2], slices.Clone(whole)
	for range 2 {
		atoms, e := boolean.Atoms(f)
		if e != api.OK || len(atoms) != 3 || !slices.Equal(atoms[0], k) {
			t.Fatal(atoms, e)
		}
		plain, _ := boolean.FromTable(6, 2)
		cubes, _ := boolean.Implicants(6, 2)
		for i, l := range append(atoms, plain) {
			if slices.ContainsFunc(l[:cap(l)], func(n api.Node) bool { return n.Op == 98 }) {
				t.Error("result", i, "shares memory with another one")
			}
			for j := range l[:cap(l)] {
				l[:cap(l)][j] = api.Node{Op: 98}
			}
		}
		clear(cubes[:cap(cubes)])
		checkImplicants(t, 6, 2, []api.Cube{{Care: 3, Value: 1}, {Care: 3, Value: 2}})
		boolean.Tautology(f)
		boolean.Table(f[:1], 6)
	}
	if !slices.Equal(whole, kept) {
		t.Error("the argument was changed:", whole)
	}
}
