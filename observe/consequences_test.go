package observe_test

import (
	"math/rand/v2"
	"slices"
	"testing"

	"witting/api"
	"witting/checker"
	"witting/formula"
	"witting/frames"
	"witting/model"
	"witting/observe"
)

// isValid reports whether a formula holds at all worlds of a model.
func isValid(t *testing.T, m api.Model, f []api.Node) bool {
	t.Helper()
	valid, e := checker.Valid(m, f)
	if e != api.OK {
		t.Fatalf("Valid(%v, %v): %d", m, f, e)
	}
	return valid
}

// knowsWhether returns the formula that an agent knows f, or knows that it does not hold.
func knowsWhether(agent int, f []api.Node) []api.Node {
	return formula.Or(formula.Know(agent, f), formula.Know(agent, formula.Not(f)))
}

// TestObserved is P22.8: the relations are equivalences, and each agent knows whether a formula that it observes holds.
func TestObserved(t *testing.T) {
	r := rand.New(rand.NewPCG(22, 8))
	for range 300 {
		n := 1 + r.IntN(6)
		law, seen := propositional(r, 3, n), randomSeen(r, n, 1+r.IntN(4), 4)
		m, _, e := observe.Build(n, law, seen)
		if e == api.ErrFalse {
			continue
		}
		if e != api.OK || !frames.In(m, api.LogicS5) || !isValid(t, m, law) {
			t.Fatalf("Build(%d, %v, %v) is %v, %d", n, law, seen, m, e)
		}
		for agent, formulas := range seen {
			for _, f := range formulas {
				if !isValid(t, m, knowsWhether(agent, f)) {
					t.Errorf("%d does not know whether %v in %v", agent, f, m)
				}
			}
		}
	}
}

// TestPooled is P22.8: what a group knows together is what an agent knows that observes what Pool returns; and each of its members is less informed, or equally.
func TestPooled(t *testing.T) {
	r := rand.New(rand.NewPCG(22, 9))
	for range 300 {
		n := 1 + r.IntN(6)
		law, seen := propositional(r, 2, n), randomSeen(r, n, 1+r.IntN(3), 3)
		group := 1 + r.IntN(1<<len(seen)-1)
		pool, e := observe.Pool(seen, group)
		if e != api.OK {
			t.Fatal(e)
		}
		m, _, e := observe.Build(n, law, append(slices.Clone(seen), pool))
		if e == api.ErrFalse {
			continue
		}
		pooled := len(seen)
		if e != api.OK || !slices.Equal(m.Rel[pooled], model.Meet(m, group)) {
			t.Fatalf("Build(%d, %v, %v with %v) is %v, %d", n, law, seen, pool, m, e)
		}
		f := static(r, 2, pooled, n)
		if !isValid(t, m, formula.Iff(formula.Know(pooled, f), formula.Dist(group, f))) {
			t.Errorf("%v in %v, for the group %d", f, m, group)
		}
		for agent := range seen {
			if yes, e := observe.Informed(m, pooled, agent); group>>agent&1 == 1 && !yes || e != api.OK {
				t.Errorf("Informed(%v, %d, %d) is %t, %d", m, pooled, agent, yes, e)
			}
		}
	}
}

// TestTold is P22.8: after Reveal each agent of the group knows whether a propositional formula holds, equivalences stay so, and agents are at least as informed as before.
func TestTold(t *testing.T) {
	r := rand.New(rand.NewPCG(22, 10))
	for _, m := range samples() {
		for group := 1; group < 1<<len(m.Rel); group++ {
			f := propositional(r, 3, len(m.Val))
			told, e := observe.Reveal(m, group, f)
			if e != api.OK || frames.In(m, api.LogicS5) && !frames.In(told, api.LogicS5) {
				t.Fatalf("Reveal(%v, %d, %v) is %v, %d", m, group, f, told, e)
			}
			for agent := range m.Rel {
				if group>>agent&1 == 1 && !isValid(t, told, knowsWhether(agent, f)) {
					t.Errorf("%d does not know whether %v in %v", agent, f, told)
				}
				if group>>agent&1 == 0 && !slices.Equal(told.Rel[agent], m.Rel[agent]) {
					t.Errorf("%d has changed: %v, %v", agent, m, told)
				}
			}
			if again, e := observe.Reveal(told, group, f); !model.Same(again, told) || e != api.OK {
				t.Errorf("Reveal(%v, %d, %v) is %v, %d", told, group, f, again, e)
			}
		}
	}
}

// TestTogether is P22.8: a formula of the static language about the facts of a model of S5 holds at a pair exactly if it holds at its first part; the relations stay equivalences.
func TestTogether(t *testing.T) {
	r := rand.New(rand.NewPCG(22, 11))
	for range 300 {
		agents := r.IntN(5)
		a := partitioned(r, 1+r.IntN(8), r.IntN(5), agents)
		b := partitioned(r, 1+r.IntN(8), r.IntN(4), agents)
		m, pairs, e := observe.Product(a, b)
		if e != api.OK || !frames.In(m, api.LogicS5) {
			t.Fatalf("Product(%v, %v) is %v, %d", a, b, m, e)
		}
		for height := range 5 {
			f := static(r, height, agents, len(a.Val))
			set, e := checker.Holds(a, f)
			got, e2 := checker.Holds(m, f)
			for i, p := range pairs {
				if has(got, i) != has(set, p[0]) || e != api.OK || e2 != api.OK {
					t.Fatalf("%v at %v in the product of %v and %v: %d, %d", f, p, a, b, e, e2)
				}
			}
		}
	}
}

// TestBuiltTogether is the product of models that are built: it is that of both laws and of all observations, up to the numbers of the worlds.
func TestBuiltTogether(t *testing.T) {
	r := rand.New(rand.NewPCG(22, 12))
	for range 200 {
		n, agents := r.IntN(4), 1+r.IntN(3)
		law, seen := propositional(r, 2, n), randomSeen(r, n, agents, 2)
		a, first, e := observe.Build(n, law, seen)
		if e == api.ErrFalse {
			continue
		}
		other := exampleSeen()
		for len(other) < agents {
			other = append(other, nil)
		}
		b, second, _ := observe.Build(2, exampleLaw(), other[:agents])
		m, pairs, e := observe.Product(a, b)
		if e != api.OK {
			t.Fatal(e)
		}
		valuations := []int{}
		for _, p := range pairs {
			valuations = append(valuations, first[p[0]]|second[p[1]]<<n)
		}
		both := slices.Clone(seen)
		for agent := range other[:agents] {
			for _, f := range other[agent] {
				both[agent] = append(slices.Clone(both[agent]), fact(f[0].I+n))
			}
		}
		if want := built(n+2, valuations, both); !model.Same(m, want) {
			t.Errorf("Product(%v, %v) is %v, not %v", a, b, m, want)
		}
	}
}
