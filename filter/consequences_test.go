package filter_test

import (
	"math/rand/v2"
	"slices"
	"testing"

	"witting/api"
	"witting/checker"
	"witting/filter"
	"witting/formula"
	"witting/model"
	"witting/relation"
)

// holds returns where a formula holds that fits a model.
func holds(t *testing.T, m api.Model, f []api.Node) uint64 {
	t.Helper()
	set, e := checker.Holds(m, f)
	if e != api.OK {
		t.Fatalf("Holds(%v, %v): %d", m, f, e)
	}
	return set
}

// checkLemma is the filtration lemma of P23.3, for a model of classes and their numbers.
func checkLemma(t *testing.T, m api.Model, f []api.Node, q api.Model, numbers []int) {
	t.Helper()
	for _, sub := range formula.Subs(f) {
		before, after := holds(t, m, sub), holds(t, q, sub)
		for w, number := range numbers {
			if has(before, w) != has(after, number) {
				t.Fatalf("%v at the world %d of %v, and in %v", sub, w, m, q)
			}
		}
	}
}

// contained reports whether the relations of a model are contained in those of another one.
func contained(a, b api.Model) bool {
	for agent, r := range a.Rel {
		for w, s := range r {
			if s&^b.Rel[agent][w] != 0 {
				return false
			}
		}
	}
	return true
}

// have reports whether all relations of a model have a property.
func have(m api.Model, property int) bool {
	return !slices.ContainsFunc(m.Rel, func(r []uint64) bool { return !relation.Has(r, property) })
}

// checkConsequences is P23.3.
func checkConsequences(t *testing.T, m api.Model, f []api.Node) {
	t.Helper()
	smallest, numbers, e := filter.Smallest(m, f)
	largest, _, g := filter.Largest(m, f)
	if e != api.OK || g != api.OK || !contained(smallest, largest) {
		t.Fatalf("of %v through %v: %v, %d, and %v, %d", m, f, smallest, e, largest, g)
	}
	models := []api.Model{smallest, largest}
	transitive, _, e := filter.Transitive(m, f)
	if (e == api.OK) != have(m, api.PropTransitive) {
		t.Fatalf("Transitive(%v, %v): %d", m, f, e)
	}
	if e == api.OK {
		models = append(models, transitive)
		if !have(transitive, api.PropTransitive) || !contained(smallest, transitive) || !contained(transitive, largest) {
			t.Errorf("Transitive(%v, %v) is %v", m, f, transitive)
		}
	}
	for _, q := range models {
		if model.Check(q) != api.OK || len(f) < 7 && q.Worlds > 1<<len(f) {
			t.Errorf("of %v through %v: %v", m, f, q)
		}
		checkLemma(t, m, f, q, numbers)
		for _, property := range []int{api.PropReflexive, api.PropSerial} {
			if have(m, property) && !have(q, property) {
				t.Errorf("of %v through %v: %v does not have the property %d", m, f, q, property)
			}
		}
	}
	if have(m, api.PropSymmetric) && !have(smallest, api.PropSymmetric) {
		t.Errorf("Smallest(%v, %v) is %v", m, f, smallest)
	}
}

// TestConsequences is P23.3 for small models and random ones.
func TestConsequences(t *testing.T) {
	r := rand.New(rand.NewPCG(23, 5))
	for _, m := range slices.Concat(small(1), small(2), small(3)) {
		checkConsequences(t, m, randomFormula(r, 1+r.IntN(10), 1, 1))
	}
	for _, m := range samples(t) {
		for range 6 {
			checkConsequences(t, m, randomFormula(r, 1+r.IntN(40), len(m.Rel), len(m.Val)))
		}
		checkConsequences(t, m, randomFormula(r, 200, len(m.Rel), len(m.Val)))
	}
}

// TestNumberOfClasses is P23.3: as many classes as a formula of n nodes can have at most among those of facts.
func TestNumberOfClasses(t *testing.T) {
	m := api.Model{Worlds: 64, Val: make([]uint64, 8)}
	for fact := range 6 {
		for w := range 64 {
			m.Val[fact] |= uint64(w>>fact&1) << w
		}
	}
	f := formula.Fact(0)
	for facts := 1; facts <= 6; facts++ {
		q, _, e := filter.Smallest(m, f)
		if q.Worlds != 1<<facts || e != api.OK {
			t.Errorf("Smallest through %v has %d worlds, %d", f, q.Worlds, e)
		}
		f = formula.And(f, formula.Fact(facts))
	}
}

// mark stands in the spare capacity of arguments.
const mark = 77

// spare returns a copy of a model whose lists have spare capacity with marks.
func spare(m api.Model) api.Model {
	c := api.Model{Worlds: m.Worlds, Val: append(slices.Clone(m.Val), mark)[:len(m.Val)]}
	for _, r := range m.Rel {
		c.Rel = append(c.Rel, append(slices.Clone(r), mark)[:len(r)])
	}
	c.Rel = append(c.Rel, []uint64{mark})[:len(c.Rel)]
	return c
}

// isKept reports whether a model that spare returned is still m, with its marks.
func isKept(c, m api.Model) bool {
	marks := c.Val[:len(c.Val)+1][len(c.Val)] == mark && slices.Equal(c.Rel[:len(c.Rel)+1][len(c.Rel)], []uint64{mark})
	for _, r := range c.Rel {
		marks = marks && r[:len(r)+1][len(r)] == mark
	}
	return marks && model.Same(c, m)
}

// fill overwrites a list with its spare capacity.
func fill[T any](l []T, with T) {
	l = l[:cap(l)]
	for i := range l {
		l[i] = with
	}
}

// fillModel overwrites the lists of a model one after the other, and reports whether none shares memory with another one.
func fillModel(m api.Model) bool {
	before := [][]uint64{}
	for _, r := range m.Rel {
		before = append(before, slices.Clone(r))
	}
	fill(m.Val, 99)
	for agent, r := range m.Rel {
		if !slices.Equal(r, before[agent]) {
			return false
		}
		fill(r, 99)
	}
	fill(m.Rel, nil)
	return true
}

// TestMemory is the rule 'Values' of DOC.md: arguments stay as they are, with their spare capacity, and results share nothing with them or with other results.
func TestMemory(t *testing.T) {
	r := rand.New(rand.NewPCG(23, 6))
	for _, m := range samples(t) {
		f := randomFormula(r, 10, len(m.Rel), len(m.Val))
		c, l := spare(m), append(slices.Clone(f), api.Node{Op: mark})[:len(f)]
		for i, filtrate := range filtrations() {
			want, wantNumbers, e := filtrate(c, l)
			q, numbers, _ := filtrate(c, l)
			other, otherNumbers, _ := filtrate(c, l)
			if !fillModel(other) {
				t.Errorf("lists of the function %d of %v, %v share memory", i, m, f)
			}
			fill(otherNumbers, 99)
			if again, _, g := filtrate(c, l); !model.Same(again, want) || g != e || !model.Same(q, want) || !slices.Equal(numbers, wantNumbers) {
				t.Errorf("results of the function %d of %v, %v have changed: %v, %v", i, m, f, q, numbers)
			}
		}
		p, _ := filter.Classes(c, l)
		other, _ := filter.Classes(c, l)
		fill(other, 99)
		if again, e := filter.Classes(c, l); !slices.Equal(p, again) || e != api.OK {
			t.Errorf("Classes(%v, %v) has changed: %v, %v", m, f, p, again)
		}
		if !isKept(c, m) || !slices.Equal(l, f) || l[:len(f)+1][len(f)].Op != mark {
			t.Errorf("an argument has changed: %v, %v", c, l)
		}
	}
}
