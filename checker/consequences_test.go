package checker_test

import (
	"math/rand/v2"
	"slices"
	"testing"

	"witting/api"
	"witting/checker"
	"witting/formula"
	"witting/frames"
	"witting/model"
)

// holds returns where a formula holds that fits a model.
func holds(t *testing.T, m api.Model, f []api.Node) uint64 {
	t.Helper()
	set, e := checker.Holds(m, f)
	if e != api.OK {
		t.Fatalf("Holds(%v, %v): %d", m, f, e)
	}
	return set
}

// TestDuals is P17.3: Poss and Know, Every and Know, and what distributed knowledge follows from.
func TestDuals(t *testing.T) {
	r := rand.New(rand.NewPCG(17, 5))
	for _, m := range samples() {
		for _, f := range formulas(r, 3, len(m.Rel), len(m.Val)) {
			for a := range m.Rel {
				if holds(t, m, formula.Poss(a, f)) != holds(t, m, formula.Not(formula.Know(a, formula.Not(f)))) {
					t.Errorf("Poss(%d, %v) in %v", a, f, m)
				}
			}
			for g := 1; g < 1<<len(m.Rel); g++ {
				everybody, distributed := worldsBelow(m.Worlds), holds(t, m, formula.Dist(g, f))
				for a := range m.Rel {
					if g>>a&1 == 0 {
						continue
					}
					knows := holds(t, m, formula.Know(a, f))
					everybody &= knows
					if knows&^distributed != 0 {
						t.Errorf("Dist(%d, %v) in %v", g, f, m)
					}
				}
				if holds(t, m, formula.Every(g, f)) != everybody {
					t.Errorf("Every(%d, %v) in %v", g, f, m)
				}
			}
		}
	}
}

// TestFixedPoint is P17.3: common knowledge is a fixed point.
func TestFixedPoint(t *testing.T) {
	r := rand.New(rand.NewPCG(17, 6))
	for _, m := range samples() {
		for _, x := range formulas(r, 3, len(m.Rel), len(m.Val)) {
			y := formulas(r, 1, len(m.Rel), len(m.Val))[0]
			for g := 1; g < 1<<len(m.Rel); g++ {
				common := formula.Common(g, x, y)
				if step := formula.Every(g, formula.Imp(x, formula.And(y, common))); holds(t, m, common) != holds(t, m, step) {
					t.Errorf("%v in %v", common, m)
				}
			}
		}
	}
}

// TestGreatest is P17.3: each set of worlds that is a fixed point is a part of common knowledge.
func TestGreatest(t *testing.T) {
	r := rand.New(rand.NewPCG(17, 7))
	x, y, z := formula.Fact(0), formula.Fact(1), formula.Fact(2)
	several := 0
	for range 300 {
		m := random(r, 1+r.IntN(5), 3, 3)
		g := 1 + r.IntN(7)
		common := holds(t, m, formula.Common(g, x, y))
		points := 0
		for s := range uint64(1) << m.Worlds {
			m.Val[2] = s
			if holds(t, m, formula.Every(g, formula.Imp(x, formula.And(y, z)))) == s {
				points++
				if s&^common != 0 {
					t.Errorf("Common(%d, ..) is %b in %v", g, common, m)
				}
			}
		}
		if points == 0 {
			t.Errorf("no fixed point in %v", m)
		}
		if points > 1 {
			several++
		}
	}
	if several < 30 {
		t.Error("models with several fixed points:", several)
	}
}

// TestAxioms is P17.3: the axioms of each logic are valid in all models with its conditions, and K in all models.
func TestAxioms(t *testing.T) {
	r := rand.New(rand.NewPCG(17, 8))
	for _, m := range samples() {
		for logic := api.LogicK; logic <= api.LogicS5; logic++ {
			closed, e := frames.Close(m, logic)
			properties, _ := frames.Properties(logic)
			if e != api.OK {
				t.Fatal(e)
			}
			f := formulas(r, 1, len(m.Rel), len(m.Val))[0]
			g := formulas(r, 1, len(m.Rel), len(m.Val))[0]
			for a := range m.Rel {
				k := formula.Imp(formula.Know(a, formula.Imp(f, g)), formula.Imp(formula.Know(a, f), formula.Know(a, g)))
				axioms := [][]api.Node{k}
				for _, p := range properties {
					axiom, _ := frames.Axiom(p, a, f)
					axioms = append(axioms, axiom)
				}
				for _, axiom := range axioms {
					if valid, e := checker.Valid(closed, axiom); !valid || e != api.OK {
						t.Errorf("%v in %v: %t, %d", axiom, closed, valid, e)
					}
				}
			}
		}
	}
}

// TestGenerated is P17.4: truth at a world is that in the part of the model that it generates.
func TestGenerated(t *testing.T) {
	r := rand.New(rand.NewPCG(17, 9))
	for _, m := range samples() {
		for _, f := range formulas(r, 3, len(m.Rel), len(m.Val)) {
			w := r.IntN(m.Worlds)
			reached, _ := model.Generated(m, 1<<w)
			part, worlds, e := model.Restrict(m, reached)
			if e != api.OK {
				t.Fatal(e)
			}
			whole, inside := holds(t, m, f), holds(t, part, f)
			for i, v := range worlds {
				if has(whole, v) != has(inside, i) {
					t.Errorf("%v at %d of %v", f, v, m)
				}
			}
		}
	}
}

// TestNumbers is P17.4: truth does not depend on the numbers of the worlds, and not on worlds beside them.
func TestNumbers(t *testing.T) {
	r := rand.New(rand.NewPCG(17, 10))
	for _, m := range samples() {
		for _, f := range formulas(r, 3, len(m.Rel), len(m.Val)) {
			to := r.Perm(m.Worlds)
			renamed, e := model.Rename(m, to)
			if e != api.OK {
				t.Fatal(e)
			}
			before, after := holds(t, m, f), holds(t, renamed, f)
			for w, v := range to {
				if has(before, w) != has(after, v) {
					t.Errorf("%v at %d of %v, renamed by %v", f, w, m, to)
				}
			}
			if m.Worlds > 32 {
				continue
			}
			both, _ := model.Union(renamed, m)
			if holds(t, both, f) != after|before<<m.Worlds {
				t.Errorf("%v in the union of %v and %v", f, renamed, m)
			}
		}
	}
}

// TestEqualFormulas is P17.1 and P17.2: what the canonical list of a formula says is what the formula says.
func TestEqualFormulas(t *testing.T) {
	r := rand.New(rand.NewPCG(17, 11))
	m := random(r, 9, 2, 2)
	// Facts, agents and operators that there are not occur as well, mostly in nodes that are not used.
	nodes := append(operators(3, 3), api.Node{Op: api.OpNext}, api.Node{Op: api.OpUntil})
	count := map[int]int{}
	for range 3000 {
		f := randomFormula(r, 1+r.IntN(12), nodes)
		c := formula.Compact(f)
		set, e := checker.Holds(m, f)
		want, code := checker.Holds(m, c)
		if set != want || e != code {
			t.Fatalf("%v: %d, %d, not %d, %d", f, set, e, want, code)
		}
		count[e]++
		sets, e := checker.Sets(m, f)
		for i := range sets {
			// A node has the set of its own formula, and none if that one has an error.
			if own, _ := checker.Holds(m, formula.Sub(f, i)); sets[i] != own || e != api.OK {
				t.Fatalf("node %d of %v: %d, not %d", i, f, sets[i], own)
			}
		}
	}
	for _, e := range []int{api.OK, api.ErrOp, api.ErrRange} {
		if count[e] < 300 {
			t.Errorf("the result %d comes %d times", e, count[e])
		}
	}
}

// mark stands in the spare capacity of arguments.
const mark = 77

// spare returns a copy of a model whose lists have spare capacity with marks.
func spare(m api.Model) api.Model {
	c := api.Model{Worlds: m.Worlds, Val: append(slices.Clone(m.Val), mark)[:len(m.Val)]}
	for _, r := range m.Rel {
		c.Rel = append(c.Rel, append(slices.Clone(r), mark)[:len(r)])
	}
	c.Rel = append(c.Rel, []uint64{mark})[:len(c.Rel)]
	return c
}

// isKept reports whether a model that spare returned is still m, with its marks.
func isKept(c, m api.Model) bool {
	marks := c.Val[:len(c.Val)+1][len(c.Val)] == mark && slices.Equal(c.Rel[:len(c.Rel)+1][len(c.Rel)], []uint64{mark})
	for _, r := range c.Rel {
		marks = marks && r[:len(r)+1][len(r)] == mark
	}
	return marks && model.Same(c, m)
}

// TestMemory is the rule 'Values' of DOC.md: arguments stay as they are, with their spare capacity, and results share nothing with them or with each other.
func TestMemory(t *testing.T) {
	r := rand.New(rand.NewPCG(17, 12))
	for _, m := range samples() {
		for _, f := range formulas(r, 2, len(m.Rel), len(m.Val)) {
			a, g := spare(m), append(slices.Clone(f), api.Node{Op: mark})[:len(f)]
			want := setsOf(m, f)
			first, _ := checker.Sets(a, g)
			second, _ := checker.Sets(a, g)
			first = first[:cap(first)]
			for i := range first {
				first[i] = 99
			}
			checker.Holds(a, g)
			checker.Valid(a, g)
			checker.At(a, 0, g)
			if !slices.Equal(second, want) {
				t.Errorf("Sets(%v, %v) has changed: %v", m, f, second)
			}
			if !isKept(a, m) || !slices.Equal(g, f) || g[:len(g)+1][len(g)].Op != mark {
				t.Errorf("an argument has changed: %v, %v", a, g)
			}
		}
	}
}
