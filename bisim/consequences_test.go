package bisim_test

import (
	"math/rand/v2"
	"slices"
	"testing"

	"witting/api"
	"witting/bisim"
	"witting/checker"
	"witting/formula"
	"witting/model"
	"witting/partition"
)

// TestDefinable is P19.2: the worlds that are together after n rounds are those that no formula of modal depth n or less tells apart, with groups those that no formula with Dist does.
func TestDefinable(t *testing.T) {
	r := rand.New(rand.NewPCG(19, 9))
	models := slices.Concat(small(1), small(2), small(3))
	for range 150 {
		models = append(models, random(r, 4+r.IntN(2), r.IntN(2), 1+r.IntN(3)))
	}
	for _, m := range models {
		for n := range 4 {
			if p, e := bisim.Rounds(m, n); !slices.Equal(p, definable(m, m.Rel, n)) || e != api.OK {
				t.Fatalf("Rounds(%v, %d) is %v, %d", m, n, p, e)
			}
		}
		groups := []int{1<<len(m.Rel) - 1}
		if p, e := bisim.WithGroups(m, groups); !slices.Equal(p, definable(m, withMeets(m, groups), m.Worlds)) || e != api.OK {
			t.Fatalf("WithGroups(%v, %v) is %v, %d", m, groups, p, e)
		}
	}
}

// randomFormula returns a formula of at most so many nodes on top of each other, whose modal operators are those of a list.
func randomFormula(r *rand.Rand, height, facts int, modal []func(f []api.Node) []api.Node) []api.Node {
	if height == 0 || r.IntN(8) == 0 {
		if facts == 0 || r.IntN(8) == 0 {
			return formula.True()
		}
		return formula.Fact(r.IntN(facts))
	}
	f := randomFormula(r, height-1, facts, modal)
	switch r.IntN(6) {
	case 0:
		return formula.Not(f)
	case 1:
		return formula.And(f, randomFormula(r, height-1, facts, modal))
	case 2:
		return formula.Iff(f, randomFormula(r, height-1, facts, modal))
	}
	if len(modal) == 0 {
		return formula.Not(f)
	}
	return modal[r.IntN(len(modal))](f)
}

// knowledge returns the operators Know and Poss of so many agents.
func knowledge(agents int) []func(f []api.Node) []api.Node {
	l := []func(f []api.Node) []api.Node{}
	for a := range agents {
		l = append(l, func(f []api.Node) []api.Node { return formula.Know(a, f) }, func(f []api.Node) []api.Node { return formula.Poss(a, f) })
	}
	return l
}

// inGroups returns the operators of layer 17 for all groups of so many agents, other than Dist; the condition of common knowledge is a fact, if there is one.
func inGroups(agents, facts int) []func(f []api.Node) []api.Node {
	l := []func(f []api.Node) []api.Node{}
	for g := 1; g < 1<<agents; g++ {
		l = append(l, func(f []api.Node) []api.Node { return formula.Every(g, f) }, func(f []api.Node) []api.Node { return formula.Common(g, formula.True(), f) })
		if facts > 0 {
			l = append(l, func(f []api.Node) []api.Node { return formula.Common(g, formula.Fact(0), f) })
		}
	}
	return l
}

// distributed returns the operators Dist of groups.
func distributed(groups []int) []func(f []api.Node) []api.Node {
	l := []func(f []api.Node) []api.Node{}
	for _, g := range groups {
		l = append(l, func(f []api.Node) []api.Node { return formula.Dist(g, f) })
	}
	return l
}

// holdsByBlocks reports whether a formula holds at all worlds of a block or at none.
func holdsByBlocks(t *testing.T, m api.Model, f []api.Node, p []int) bool {
	t.Helper()
	set, e := checker.Holds(m, f)
	if e != api.OK {
		t.Fatalf("Holds(%v, %v): %d", m, f, e)
	}
	for w, lowest := range p {
		if has(set, w) != has(set, lowest) {
			return false
		}
	}
	return true
}

// TestFormulas is P19.2 and P3: worlds that are together satisfy the same formulas.
func TestFormulas(t *testing.T) {
	r := rand.New(rand.NewPCG(19, 10))
	mixed := 0
	for _, m := range samples() {
		agents, facts := len(m.Rel), len(m.Val)
		groups := []int{}
		for range min(agents, 3) {
			groups = append(groups, 1+r.IntN(1<<agents-1))
		}
		coarsest, _ := bisim.Coarsest(m)
		withGroups, _ := bisim.WithGroups(m, groups)
		static := slices.Concat(knowledge(agents), inGroups(agents, facts))
		for height := range 7 {
			f := randomFormula(r, height, facts, static)
			g := randomFormula(r, height, facts, slices.Concat(static, distributed(groups)))
			h := randomFormula(r, height, facts, knowledge(agents))
			rounds, _ := bisim.Rounds(m, formula.Depth(h))
			if !holdsByBlocks(t, m, f, coarsest) || !holdsByBlocks(t, m, g, withGroups) || !holdsByBlocks(t, m, h, rounds) {
				t.Errorf("%v, %v or %v in %v", f, g, h, m)
			}
			if set, _ := checker.Holds(m, h); set != 0 && set != worldsBelow(m.Worlds) && formula.Depth(h) > 1 {
				mixed++
			}
		}
	}
	if mixed < 50 {
		t.Error("formulas that tell worlds apart:", mixed)
	}
}

// TestBetweenItself is P19.2: Between of a model and itself is the equivalence of Coarsest.
func TestBetweenItself(t *testing.T) {
	for _, m := range append(samples(), small(3)...) {
		p, _ := bisim.Coarsest(m)
		z, e := bisim.Between(m, m)
		if !slices.Equal(z, partition.Relation(p)) || e != api.OK {
			t.Fatalf("Between(%v, itself) is %v, %d, and Coarsest %v", m, z, e, p)
		}
		if q, e := partition.Of(z); !slices.Equal(q, p) || e != api.OK {
			t.Fatalf("Between(%v, itself) is %v, which is no equivalence", m, z)
		}
		if e := bisim.Check(m, m, z); e != api.OK {
			t.Fatalf("Check(%v, itself, %v) is %d", m, z, e)
		}
		rows := make([]uint64, m.Worlds)
		for w := range rows {
			rows[w] = 1 << w
		}
		if e := bisim.Check(m, m, rows); e != api.OK {
			t.Fatalf("the identity of %v: %d", m, e)
		}
	}
}

// TestBetweenAndUnion is P19.2: worlds of two models are bisimilar if they are together in the disjoint union, and the converse relation is that of the models the other way round.
func TestBetweenAndUnion(t *testing.T) {
	r := rand.New(rand.NewPCG(19, 11))
	for range 300 {
		m := random(r, 1+r.IntN(8), r.IntN(3), r.IntN(4))
		a, _ := inflated(r, m, 1+r.IntN(32))
		b, _ := inflated(r, m, 1+r.IntN(32))
		union, e := model.Union(a, b)
		if e != api.OK {
			t.Fatal(e)
		}
		p, _ := bisim.Coarsest(union)
		z, _ := bisim.Between(a, b)
		back, _ := bisim.Between(b, a)
		for v := range a.Worlds {
			for w := range b.Worlds {
				if has(z[v], w) != (p[v] == p[a.Worlds+w]) || has(z[v], w) != has(back[w], v) {
					t.Fatalf("Between(%v, %v) is %v and %v the other way round, Coarsest of the union %v", a, b, z, back, p)
				}
			}
		}
	}
}

// TestRefinement is P19.2: each round refines the one before, until Coarsest is reached at Depth.
func TestRefinement(t *testing.T) {
	for _, m := range samples() {
		depth, _ := bisim.Depth(m)
		last, _ := bisim.Coarsest(m)
		before, _ := bisim.Rounds(m, 0)
		for n := 1; n <= depth+1; n++ {
			p, e := bisim.Rounds(m, n)
			if !partition.Refines(p, before) || e != api.OK {
				t.Errorf("Rounds(%v, %d) is %v, %d, after %v", m, n, p, e, before)
			}
			if slices.Equal(p, before) != (n == depth+1) || slices.Equal(p, last) != (n >= depth) {
				t.Errorf("Rounds(%v, %d) is %v after %v, and the depth %d", m, n, p, before, depth)
			}
			before = p
		}
	}
}

// mark stands in the spare capacity of arguments.
const mark = 77

// spare returns a copy of a model whose lists have spare capacity with marks.
func spare(m api.Model) api.Model {
	c := api.Model{Worlds: m.Worlds, Val: append(slices.Clone(m.Val), mark)[:len(m.Val)]}
	for _, r := range m.Rel {
		c.Rel = append(c.Rel, append(slices.Clone(r), mark)[:len(r)])
	}
	c.Rel = append(c.Rel, []uint64{mark})[:len(c.Rel)]
	return c
}

// isKept reports whether a model that spare returned is still m, with its marks.
func isKept(c, m api.Model) bool {
	marks := c.Val[:len(c.Val)+1][len(c.Val)] == mark && slices.Equal(c.Rel[:len(c.Rel)+1][len(c.Rel)], []uint64{mark})
	for _, r := range c.Rel {
		marks = marks && r[:len(r)+1][len(r)] == mark
	}
	return marks && model.Same(c, m)
}

// fill overwrites a list with its spare capacity.
func fill[T int | uint64](l []T) {
	l = l[:cap(l)]
	for i := range l {
		l[i] = 99
	}
}

// TestMemory is the rule 'Values' of DOC.md: arguments stay as they are, with their spare capacity, and results share nothing with them or with other results.
func TestMemory(t *testing.T) {
	for _, m := range samples() {
		if len(m.Rel) == 0 {
			continue
		}
		a, b, groups := spare(m), spare(m), []int{1, 1, mark}[:2]
		partitions := func() [][]int {
			first, _ := bisim.Rounds(a, 0)
			second, _ := bisim.Rounds(a, 1)
			coarsest, _ := bisim.Coarsest(a)
			withGroups, _ := bisim.WithGroups(a, groups)
			return [][]int{first, second, coarsest, withGroups}
		}
		want, kept := partitions(), partitions()
		for _, p := range partitions() {
			fill(p)
		}
		if !slices.EqualFunc(kept, want, slices.Equal[[]int]) {
			t.Errorf("partitions of %v have changed: %v, not %v", m, kept, want)
		}
		before, _ := bisim.Between(a, b)
		after, _ := bisim.Between(a, b)
		z := append(slices.Clone(before), mark)[:m.Worlds]
		fill(before)
		bisim.Check(a, b, z)
		bisim.Bisimilar(a, 0, b, 0)
		bisim.Depth(a)
		if !slices.Equal(after, z) || z[:m.Worlds+1][m.Worlds] != mark || groups[:3][2] != mark || groups[0] != 1 || groups[1] != 1 {
			t.Errorf("relations of %v have changed: %v, %v, or the groups %v", m, after, z, groups)
		}
		if !isKept(a, m) || !isKept(b, m) {
			t.Errorf("an argument has changed: %v, %v", a, b)
		}
	}
}
