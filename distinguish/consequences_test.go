package distinguish_test

import (
	"math/rand/v2"
	"slices"
	"testing"

	"witting/api"
	"witting/bisim"
	"witting/distinguish"
	"witting/formula"
	"witting/model"
)

// TestLeast is P21.2: formulas of the returned depth tell two worlds apart, and none of a smaller one does; bisimilar worlds agree on all formulas.
func TestLeast(t *testing.T) {
	r := rand.New(rand.NewPCG(21, 4))
	models := slices.Concat(small(2), small(3))
	for range 150 {
		models = append(models, random(r, 4+r.IntN(3), r.IntN(2), 1+r.IntN(3)))
	}
	for _, m := range models {
		rows := [][]uint64{}
		for n := range m.Worlds + 1 {
			rows = append(rows, alike(m, n))
		}
		for v := range m.Worlds {
			for w := range m.Worlds {
				depth, e := distinguish.Depth(m, v, w)
				if e != api.OK {
					depth = m.Worlds + 1
				}
				for n := range rows {
					if has(rows[n][v], w) != (n < depth) {
						t.Fatalf("Depth(%v, %d, %d) is %d, %d; at the depth %d, these are alike: %b", m, v, w, depth, e, n, rows[n])
					}
				}
			}
		}
	}
}

// randomFormula returns a formula of knowledge that fits so many agents and facts, without distributed knowledge.
func randomFormula(r *rand.Rand, height, agents, facts int) []api.Node {
	if height == 0 || r.IntN(8) == 0 {
		if facts == 0 {
			return formula.True()
		}
		return formula.Fact(r.IntN(facts))
	}
	f := randomFormula(r, height-1, agents, facts)
	choice := r.IntN(8)
	if agents == 0 {
		choice = r.IntN(3)
	}
	switch choice {
	case 0:
		return formula.Not(f)
	case 1:
		return formula.And(f, randomFormula(r, height-1, agents, facts))
	case 2:
		return formula.Iff(f, randomFormula(r, height-1, agents, facts))
	case 3:
		return formula.Every(1+r.IntN(1<<agents-1), f)
	case 4:
		return formula.Common(1+r.IntN(1<<agents-1), randomFormula(r, height-1, agents, facts), f)
	case 5:
		return formula.Poss(r.IntN(agents), f)
	}
	return formula.Know(r.IntN(agents), f)
}

// TestAgreement is P21.2 and P3: worlds for which Formula returns ErrNone are bisimilar and agree on formulas, also those with everybody's and common knowledge; others agree on formulas of a smaller depth with Know and Poss.
func TestAgreement(t *testing.T) {
	r := rand.New(rand.NewPCG(21, 5))
	bisimilar, less := 0, 0
	for _, m := range samples() {
		for _, p := range pairs(r, m.Worlds) {
			same, _ := bisim.Bisimilar(m, p[0], m, p[1])
			_, e := distinguish.Formula(m, p[0], p[1])
			if (e == api.ErrNone) != same {
				t.Errorf("Formula(%v, %v): %d, and bisimilar: %t", m, p, e, same)
			}
			depth, _ := distinguish.Depth(m, p[0], p[1])
			for height := range 6 {
				f := randomFormula(r, height, len(m.Rel), len(m.Val))
				isStatic := formula.Frags(f)&^api.FragKnow != 0
				if !same && (isStatic || formula.Depth(f) >= depth) {
					continue
				}
				if set := holds(t, m, f); has(set, p[0]) != has(set, p[1]) {
					t.Errorf("%v in %v at %v, which are told apart at %d", f, m, p, depth)
				}
				if same && p[0] != p[1] {
					bisimilar++
				} else if !same && formula.Depth(f) > 0 {
					less++
				}
			}
		}
	}
	if bisimilar < 1000 || less < 200 {
		t.Error("formulas for bisimilar worlds and for others:", bisimilar, less)
	}
}

// TestCharacteristics is P21.2: the characteristic formulas of two worlds are true at the same worlds, or at no common one; those of further rounds at fewer worlds.
func TestCharacteristics(t *testing.T) {
	r := rand.New(rand.NewPCG(21, 6))
	for range 100 {
		m := random(r, 2+r.IntN(10), r.IntN(3), 1+r.IntN(4))
		before := slices.Repeat([]uint64{worldsBelow(m.Worlds)}, m.Worlds)
		for n := range 5 {
			sets := []uint64{}
			for w := range m.Worlds {
				f, e := distinguish.Characteristic(m, w, n)
				if e != api.OK {
					t.Fatalf("Characteristic(%v, %d, %d): %d", m, w, n, e)
				}
				set := holds(t, m, f)
				if !has(set, w) || set&^before[w] != 0 {
					t.Fatalf("Characteristic(%v, %d, %d) is true at %b, and for fewer rounds at %b", m, w, n, set, before[w])
				}
				for _, s := range sets {
					if s != set && s&set != 0 {
						t.Fatalf("characteristic formulas of %v for %d rounds are true at %b and at %b", m, n, s, set)
					}
				}
				sets = append(sets, set)
			}
			before = sets
		}
	}
}

// mark stands in the spare capacity of arguments.
const mark = 77

// spare returns a copy of a model whose lists have spare capacity with marks.
func spare(m api.Model) api.Model {
	c := api.Model{Worlds: m.Worlds, Val: append(slices.Clone(m.Val), mark)[:len(m.Val)]}
	for _, r := range m.Rel {
		c.Rel = append(c.Rel, append(slices.Clone(r), mark)[:len(r)])
	}
	c.Rel = append(c.Rel, []uint64{mark})[:len(c.Rel)]
	return c
}

// isKept reports whether a model that spare returned is still m, with its marks.
func isKept(c, m api.Model) bool {
	marks := c.Val[:len(c.Val)+1][len(c.Val)] == mark && slices.Equal(c.Rel[:len(c.Rel)+1][len(c.Rel)], []uint64{mark})
	for _, r := range c.Rel {
		marks = marks && r[:len(r)+1][len(r)] == mark
	}
	return marks && model.Same(c, m)
}

// TestMemory is the rule 'Values' of DOC.md: arguments stay as they are, with their spare capacity, equal calls return equal formulas, and these share no memory.
func TestMemory(t *testing.T) {
	r := rand.New(rand.NewPCG(21, 7))
	for _, m := range samples() {
		c := spare(m)
		p := pairs(r, m.Worlds)[1%m.Worlds]
		results := func() [][]api.Node {
			f, _ := distinguish.Formula(c, p[0], p[1])
			g, _ := distinguish.Characteristic(c, p[0], 2)
			h, _ := distinguish.Characteristic(c, p[1], 2)
			return [][]api.Node{f, g, h}
		}
		want, kept := results(), results()
		for _, f := range results() {
			f = f[:cap(f)]
			for i := range f {
				f[i] = api.Node{Op: mark}
			}
		}
		distinguish.Depth(c, p[0], p[1])
		if !slices.EqualFunc(kept, want, slices.Equal[[]api.Node]) || !slices.EqualFunc(results(), want, slices.Equal[[]api.Node]) {
			t.Errorf("formulas of %v have changed: %v, not %v", m, kept, want)
		}
		if !isKept(c, m) {
			t.Errorf("an argument has changed: %v, not %v", c, m)
		}
	}
}
