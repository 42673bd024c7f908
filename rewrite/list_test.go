package rewrite

import (
	"math/rand/v2"
	"slices"
	"testing"

	"witting/api"
	"witting/formula"
)

// checkList compares a list of formulas.
func checkList(t *testing.T, name string, got [][]api.Node, e int, want [][]api.Node) {
	t.Helper()
	if e != api.OK || !slices.EqualFunc(got, want, same) {
		t.Errorf("%s: %v, %d, not %v", name, got, e, want)
	}
}

// modalOf is the chapter's Modal.
func modalOf(f []api.Node) [][]api.Node {
	plain := []int{api.OpTrue, api.OpFalse, api.OpFact, api.OpNot, api.OpAnd, api.OpOr, api.OpImp, api.OpIff}
	var l [][]api.Node
	for _, g := range formula.Subs(f) {
		if n, _, _ := parts(g); !slices.Contains(plain, n.Op) {
			l = append(l, g)
		}
	}
	return l
}

// closureOf is the chapter's Closure.
func closureOf(f []api.Node) [][]api.Node {
	var l [][]api.Node
	for _, g := range formula.Subs(f) {
		for _, h := range [][]api.Node{g, negate(g)} {
			if !slices.ContainsFunc(l, func(other []api.Node) bool { return same(h, other) }) {
				l = append(l, h)
			}
		}
	}
	return l
}

// TestModal is P8.1: the subformulas with other operators, in their order.
func TestModal(t *testing.T) {
	p, q := formula.Fact(0), formula.Fact(1)
	know, next := formula.Know(0, formula.Not(p)), formula.Next(q)
	for name, c := range map[string]struct {
		f    []api.Node
		want [][]api.Node
	}{
		"a fact":       {p, nil},
		"propositions": {formula.Iff(formula.Imp(p, q), formula.Or(formula.Not(formula.True()), formula.And(p, formula.False()))), nil},
		"one":          {know, [][]api.Node{know}},
		"twice":        {formula.And(know, know), [][]api.Node{know}},
		"in order":     {formula.Or(next, know), [][]api.Node{next, know}},
		"nested":       {formula.Announce(know, formula.Not(next)), [][]api.Node{know, next, formula.Announce(know, formula.Not(next))}},
		"not used":     {append(loose(false), api.Node{Op: api.OpNot, X: 1}), nil},
		"equal":        {loose(true), [][]api.Node{formula.Know(1, p)}},
	} {
		got, e := Modal(c.f)
		checkList(t, name, got, e, c.want)
	}
	for _, n := range nodes() {
		f := built(n, p, q)
		got, e := Modal(f)
		if n.Op < api.OpKnow {
			checkList(t, "Modal", got, e, nil)
		} else {
			checkList(t, "Modal", got, e, [][]api.Node{f})
		}
	}
	got, e := Modal(knows(200))
	checkList(t, "a long one", got, e, formula.Subs(knows(200))[1:])
}

// TestClosure is P8.1: the subformulas with their negations, each once.
func TestClosure(t *testing.T) {
	p, q := formula.Fact(0), formula.Fact(1)
	not := formula.Not
	know := formula.Know(1, not(p))
	for name, c := range map[string]struct {
		f    []api.Node
		want [][]api.Node
	}{
		"a fact":     {p, [][]api.Node{p, not(p)}},
		"a constant": {formula.False(), [][]api.Node{formula.False(), not(formula.False())}},
		"two nots":   {not(not(p)), [][]api.Node{p, not(p), not(not(p))}},
		"knowledge":  {know, [][]api.Node{p, not(p), know, not(know)}},
		"both":       {formula.And(not(p), q), [][]api.Node{p, not(p), q, not(q), formula.And(not(p), q), not(formula.And(not(p), q))}},
		"not used":   {append(loose(false), api.Node{Op: api.OpNot, X: 1}), [][]api.Node{p, not(p)}},
		"equal":      {loose(true), [][]api.Node{p, not(p), formula.Know(1, p), not(formula.Know(1, p))}},
	} {
		got, e := Closure(c.f)
		checkList(t, name, got, e, c.want)
	}
	for _, f := range [][]api.Node{knows(200), append(nots(199), api.Node{Op: api.OpSafe, X: 198})} {
		if got, e := Closure(f); len(got) != 0 || e != api.ErrLimit {
			t.Errorf("%d formulas, %d", len(got), e)
		}
	}
	got, e := Closure(nots(200))
	checkList(t, "many nots", got, e, formula.Subs(nots(200)))
	got, e = Closure(knows(199))
	checkList(t, "the greatest one", got, e, closureOf(knows(199)))
	got, e = Closure(not(knows(199)))
	checkList(t, "its negation", got, e, closureOf(knows(199)))
}

// TestLists is P8.1: Modal and Closure of random formulas.
func TestLists(t *testing.T) {
	r := rand.New(rand.NewPCG(8, 3))
	for range 1000 {
		f := random(r, 1+r.IntN(20), nodes())
		got, e := Modal(f)
		checkList(t, "Modal", got, e, modalOf(f))
		got, e = Closure(f)
		if checkList(t, "Closure", got, e, closureOf(f)); t.Failed() {
			t.Fatal(f)
		}
	}
}

// TestMemory is the rule 'Values' of DOC.md: arguments stay as they are, and results share nothing.
func TestMemory(t *testing.T) {
	f := append(loose(true), api.Node{Op: 99})[:6]
	g := append(formula.Know(3, formula.Fact(1)), api.Node{Op: 98})[:2]
	to := append([][]api.Node{g, g}, [][]api.Node{nil}...)[:2]
	before := slices.Clone(f[:7])
	wreck := func(list [][]api.Node) {
		for i := range list {
			l := list[i][:cap(list[i])]
			for j := range l {
				l[j] = api.Node{Op: 97, I: i}
			}
			for j := range i {
				if slices.ContainsFunc(list[j][:cap(list[j])], func(n api.Node) bool { return n.I != j }) {
					t.Error("two formulas share memory")
				}
			}
		}
	}
	for range 2 {
		for name, functions := range functions() {
			got, e := functions[0](f)
			want, _ := functions[1](f)
			checkResult(t, name, f, got, e, want)
			wreck([][]api.Node{got})
		}
		got, e := Subst(f, to)
		checkResult(t, "Subst", f, got, e, subst(f, to))
		wreck([][]api.Node{got})
		modal, e := Modal(f)
		checkList(t, "Modal", modal, e, modalOf(f))
		wreck(modal)
		closure, e := Closure(f)
		checkList(t, "Closure", closure, e, closureOf(f))
		wreck(closure)
	}
	if !slices.Equal(f[:7], before) || g[:3][2].Op != 98 || to[:3][2] != nil || !same(to[0], formula.Know(3, formula.Fact(1))) {
		t.Error("arguments were changed:", f[:7], g[:3], to)
	}
}
