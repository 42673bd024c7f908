package quotient_test

import (
	"math/rand/v2"
	"slices"
	"testing"

	"witting/api"
	"witting/bisim"
	"witting/checker"
	"witting/formula"
	"witting/frames"
	"witting/isomorph"
	"witting/model"
	"witting/quotient"
)

// TestMinimized is P20.4: the quotient is minimal, its worlds are bisimilar to those of the model, and minimizing again changes nothing.
func TestMinimized(t *testing.T) {
	for _, m := range slices.Concat(samples(), small(3)) {
		q, l, e := quotient.Minimize(m)
		if e != api.OK || !quotient.Minimal(q) {
			t.Fatalf("Minimize(%v) is %v, %d, which is not minimal", m, q, e)
		}
		z := make([]uint64, m.Worlds)
		for w, number := range l {
			z[w] = 1 << number
		}
		if e := bisim.Check(m, q, z); e != api.OK {
			t.Fatalf("the numbers %v of %v in %v: %d", l, m, q, e)
		}
		again, l, e := quotient.Minimize(q)
		if !model.Same(again, q) || e != api.OK {
			t.Fatalf("Minimize(%v) is %v, %d", q, again, e)
		}
		for w, number := range l {
			if w != number {
				t.Fatalf("Minimize(%v) has the numbers %v", q, l)
			}
		}
	}
}

// randomFormula returns a formula without distributed knowledge that fits so many agents and facts.
func randomFormula(r *rand.Rand, height, agents, facts int) []api.Node {
	if height == 0 || r.IntN(8) == 0 {
		if facts == 0 {
			return formula.True()
		}
		return formula.Fact(r.IntN(facts))
	}
	f := randomFormula(r, height-1, agents, facts)
	choice := r.IntN(8)
	if agents == 0 {
		choice = r.IntN(3)
	}
	switch choice {
	case 0:
		return formula.Not(f)
	case 1:
		return formula.And(f, randomFormula(r, height-1, agents, facts))
	case 2:
		return formula.Imp(f, randomFormula(r, height-1, agents, facts))
	case 3, 4:
		return formula.Know(r.IntN(agents), f)
	case 5:
		return formula.Poss(r.IntN(agents), f)
	case 6:
		return formula.Every(1+r.IntN(1<<agents-1), f)
	}
	return formula.Common(1+r.IntN(1<<agents-1), randomFormula(r, height-1, agents, facts), f)
}

// holdsAlike reports whether a formula holds at worlds of a model where it does at their images in another one.
func holdsAlike(t *testing.T, m, q api.Model, l []int, f []api.Node) bool {
	t.Helper()
	before, e := checker.Holds(m, f)
	if e != api.OK {
		t.Fatalf("Holds(%v, %v): %d", m, f, e)
	}
	after, e := checker.Holds(q, f)
	if e != api.OK {
		t.Fatalf("Holds(%v, %v): %d", q, f, e)
	}
	return before == copies(l, after)
}

// TestFormulas is P20.4: the same formulas without distributed knowledge hold at a world and at its number.
func TestFormulas(t *testing.T) {
	r := rand.New(rand.NewPCG(20, 5))
	for _, m := range samples() {
		q, l, _ := quotient.Minimize(m)
		for height := range 6 {
			f := randomFormula(r, height, len(m.Rel), len(m.Val))
			if !holdsAlike(t, m, q, l, f) {
				t.Errorf("%v in %v and in %v", f, m, q)
			}
			w := r.IntN(m.Worlds)
			p, place, _ := quotient.Pointed(m, w)
			c, _ := quotient.Canonical(m, w)
			want, _ := checker.At(m, w, f)
			inPointed, _ := checker.At(p, place, f)
			inCanonical, _ := checker.At(c, 0, f)
			if inPointed != want || inCanonical != want {
				t.Errorf("%v at %d in %v, in %v and in %v", f, w, m, p, c)
			}
		}
	}
}

// TestSameIsBisimilar is P20.4: Same is true exactly if the worlds are bisimilar (layer 19).
func TestSameIsBisimilar(t *testing.T) {
	r := rand.New(rand.NewPCG(20, 6))
	for range 300 {
		m := random(r, 1+r.IntN(8), r.IntN(3), r.IntN(5))
		a, _ := inflated(r, m, 1+r.IntN(64))
		b, _ := inflated(r, m, 1+r.IntN(64))
		v, w := r.IntN(a.Worlds), r.IntN(b.Worlds)
		want, e := bisim.Bisimilar(a, v, b, w)
		if e != api.OK {
			t.Fatal(e)
		}
		if same, e := quotient.Same(a, v, b, w); same != want || e != api.OK {
			t.Errorf("Same(%v, %d, %v, %d) is %t, %d", a, v, b, w, same, e)
		}
		if same, e := quotient.Same(b, w, a, v); same != want || e != api.OK {
			t.Errorf("Same(%v, %d, %v, %d) is %t, %d", b, w, a, v, same, e)
		}
	}
}

// TestUnique is P3: models with the same worlds up to bisimulation have isomorphic quotients, and none is smaller.
func TestUnique(t *testing.T) {
	r := rand.New(rand.NewPCG(20, 7))
	for range 300 {
		m := random(r, 1+r.IntN(10), r.IntN(3), 1+r.IntN(3))
		least, _, _ := quotient.Minimize(m)
		a, of := inflated(r, m, m.Worlds+r.IntN(65-m.Worlds))
		q, l, e := quotient.Minimize(a)
		if e != api.OK || q.Worlds != least.Worlds || q.Worlds > m.Worlds {
			t.Fatalf("Minimize(%v) is %v, %d, not as %v", a, q, e, least)
		}
		if _, e := isomorph.Isomorphic(q, least); e != api.OK {
			t.Errorf("%v and %v are not isomorphic: %d", q, least, e)
		}
		for w := range a.Worlds {
			c, _ := quotient.Canonical(a, w)
			want, _ := quotient.Canonical(m, of[w])
			inQuotient, _ := quotient.Canonical(q, l[w])
			if !model.Same(c, want) || !model.Same(inQuotient, want) {
				t.Fatalf("Canonical(%v, %d) is %v, not %v", a, w, c, want)
			}
		}
	}
}

// TestRenamed is P20.2: the canonical quotient does not depend on the numbers of the worlds, and is that of itself.
func TestRenamed(t *testing.T) {
	r := rand.New(rand.NewPCG(20, 8))
	for _, m := range samples() {
		to := r.Perm(m.Worlds)
		renamed, _ := model.Rename(m, to)
		for _, w := range roots(m) {
			want, _ := quotient.Canonical(m, w)
			if c, e := quotient.Canonical(renamed, to[w]); !model.Same(c, want) || e != api.OK {
				t.Errorf("Canonical(%v, %d) is %v, %d, not %v", renamed, to[w], c, e, want)
			}
			if c, e := quotient.Canonical(want, 0); !model.Same(c, want) || e != api.OK {
				t.Errorf("Canonical(%v, 0) is %v, %d", want, c, e)
			}
		}
	}
}

// TestProperties is P20.4: reflexive, serial and symmetric relations remain so in every quotient. (Equivalences do not.)
func TestProperties(t *testing.T) {
	r := rand.New(rand.NewPCG(20, 9))
	models := slices.Concat(small(2), small(3))
	for range 60 {
		models = append(models, random(r, 4+r.IntN(2), 1, 1+r.IntN(2)))
		closed, _ := frames.Close(sparse(r, 4+r.IntN(2)), api.LogicS5)
		models = append(models, closed)
	}
	properties := map[string]func(m api.Model) bool{
		"serial":      func(m api.Model) bool { return frames.In(m, api.LogicKD) },
		"reflexive":   func(m api.Model) bool { return frames.In(m, api.LogicT) },
		"symmetric":   isSymmetric,
		"equivalence": func(m api.Model) bool { return frames.In(m, api.LogicS5) },
	}
	kept, lost := map[string]int{}, map[string]int{}
	for _, m := range models {
		for _, p := range partitions(m.Worlds) {
			q, _, e := quotient.By(m, p)
			if e != api.OK {
				continue
			}
			for name, holds := range properties {
				if holds(m) && holds(q) {
					kept[name]++
				}
				if holds(m) && !holds(q) {
					lost[name]++
				}
			}
		}
	}
	for name := range properties {
		if kept[name] < 100 || (lost[name] > 0) != (name == "equivalence") {
			t.Errorf("%s: kept %d times, lost %d times", name, kept[name], lost[name])
		}
	}
}

// isSymmetric reports whether all relations of a model are symmetric.
func isSymmetric(m api.Model) bool {
	for _, r := range m.Rel {
		for v := range r {
			for w := range r {
				if has(r[v], w) != has(r[w], v) {
					return false
				}
			}
		}
	}
	return true
}

// TestMinimizedS5 is P20.4: the relations of a minimized model of S5 are equivalences.
func TestMinimizedS5(t *testing.T) {
	r := rand.New(rand.NewPCG(20, 10))
	smaller := 0
	for range 2000 {
		m, e := frames.Close(sparse(r, 2+r.IntN(12)), api.LogicS5)
		if e != api.OK {
			t.Fatal(e)
		}
		q, _, e := quotient.Minimize(m)
		if !frames.In(q, api.LogicS5) || e != api.OK {
			t.Errorf("Minimize(%v) is %v, %d", m, q, e)
		}
		if q.Worlds > 1 && q.Worlds < m.Worlds {
			smaller++
		}
	}
	if smaller < 100 {
		t.Error("models of S5 with smaller quotients:", smaller)
	}
}

// sparse returns a model with so many worlds whose equivalence closures have several small classes.
func sparse(r *rand.Rand, worlds int) api.Model {
	m := api.Model{Worlds: worlds, Val: []uint64{0}, Rel: make([][]uint64, 1+r.IntN(3))}
	m.Val[0] = r.Uint64() & worldsBelow(m.Worlds)
	for a := range m.Rel {
		m.Rel[a] = make([]uint64, m.Worlds)
		for range m.Worlds / 2 {
			m.Rel[a][r.IntN(m.Worlds)] |= 1 << r.IntN(m.Worlds)
		}
	}
	return m
}

// mark stands in the spare capacity of arguments.
const mark = 77

// spare returns a copy of a model whose lists have spare capacity with marks.
func spare(m api.Model) api.Model {
	c := api.Model{Worlds: m.Worlds, Val: append(slices.Clone(m.Val), mark)[:len(m.Val)]}
	for _, r := range m.Rel {
		c.Rel = append(c.Rel, append(slices.Clone(r), mark)[:len(r)])
	}
	c.Rel = append(c.Rel, []uint64{mark})[:len(c.Rel)]
	return c
}

// isKept reports whether a model that spare returned is still m, with its marks.
func isKept(c, m api.Model) bool {
	marks := c.Val[:len(c.Val)+1][len(c.Val)] == mark && slices.Equal(c.Rel[:len(c.Rel)+1][len(c.Rel)], []uint64{mark})
	for _, r := range c.Rel {
		marks = marks && r[:len(r)+1][len(r)] == mark
	}
	return marks && model.Same(c, m)
}

// clone returns a copy of a model.
func clone(m api.Model) api.Model {
	c := api.Model{Worlds: m.Worlds, Val: slices.Clone(m.Val)}
	for _, r := range m.Rel {
		c.Rel = append(c.Rel, slices.Clone(r))
	}
	return c
}

// fill overwrites a list with its spare capacity.
func fill[T int | uint64](l []T) {
	l = l[:cap(l)]
	for i := range l {
		l[i] = 99
	}
}

// results returns what the functions make of a model and a partition.
func results(m api.Model, p []int) ([]api.Model, [][]int) {
	by, inBy, _ := quotient.By(m, p)
	least, inLeast, _ := quotient.Minimize(m)
	pointed, _, _ := quotient.Pointed(m, m.Worlds-1)
	canonical, _ := quotient.Canonical(m, m.Worlds-1)
	return []api.Model{by, least, pointed, canonical}, [][]int{inBy, inLeast}
}

// TestMemory is the rule 'Values' of DOC.md: arguments stay as they are, with their spare capacity, and results share nothing with them or with each other.
func TestMemory(t *testing.T) {
	for _, m := range samples() {
		single := partitions(1)[0]
		for w := 1; w < m.Worlds; w++ {
			single = append(single, w)
		}
		a, p := spare(m), append(slices.Clone(single), mark)[:m.Worlds]
		models, lists := results(m, single)
		kept, keptLists := results(a, p)
		others, otherLists := results(a, p)
		for _, l := range otherLists {
			fill(l)
		}
		for i, q := range others {
			if e := model.Check(q); e != api.OK {
				t.Fatalf("the result %d of %v is not valid: %d", i, m, e)
			}
			before := clone(q)
			fill(q.Val)
			for agent := range q.Rel {
				if !slices.Equal(q.Rel[agent], before.Rel[agent]) {
					t.Errorf("the relation of %d in the result %d of %v shares memory", agent, i, m)
				}
				fill(q.Rel[agent])
			}
		}
		quotient.Minimal(a)
		quotient.Same(a, 0, a, m.Worlds-1)
		if !slices.EqualFunc(kept, models, model.Same) || !slices.EqualFunc(keptLists, lists, slices.Equal[[]int]) {
			t.Errorf("results of %v have changed: %v, %v", m, kept, keptLists)
		}
		if !isKept(a, m) || !slices.Equal(p, single) || p[:m.Worlds+1][m.Worlds] != mark {
			t.Errorf("an argument has changed: %v, %v", a, p)
		}
	}
}
