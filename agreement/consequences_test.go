package agreement_test

import (
	"math/big"
	"math/rand/v2"
	"slices"
	"testing"

	"witting/agreement"
	"witting/api"
	"witting/checker"
	"witting/formula"
	"witting/model"
	"witting/partition"
)

// posteriors returns the posteriors of an agent in a valid prior.
func posteriors(t *testing.T, p api.Prior, agent int, event uint64) []api.Fraction {
	t.Helper()
	l, e := agreement.Posteriors(p, agent, event)
	if e != api.OK {
		t.Fatalf("Posteriors(%v, %d, %b): %d", p, agent, event, e)
	}
	return l
}

// TestMean is P24.6: posteriors are constant on cells, and their mean is the probability of the event.
func TestMean(t *testing.T) {
	r := rand.New(rand.NewPCG(24, 5))
	for _, p := range samples() {
		for _, event := range events(r, p) {
			inEvent, whole := int64(0), int64(0)
			for w, weight := range p.Weight {
				whole += int64(weight)
				if has(event, w) {
					inEvent += int64(weight)
				}
			}
			for agent, cells := range p.Cells {
				sum := new(big.Rat)
				for w, f := range posteriors(t, p, agent, event) {
					if f != posteriors(t, p, agent, event)[cells[w]] {
						t.Fatalf("the posteriors of %d in %v for %b differ in a cell", agent, p, event)
					}
					sum.Add(sum, new(big.Rat).Mul(big.NewRat(int64(f.Num), int64(f.Den)), big.NewRat(int64(p.Weight[w]), whole)))
				}
				if sum.Cmp(big.NewRat(inEvent, whole)) != 0 {
					t.Errorf("the mean of %d in %v for %b is %v", agent, p, event, sum)
				}
			}
		}
	}
}

// TestKnown is P24.6: cells are divided only, and after an announcement every agent knows it, in the model, too.
func TestKnown(t *testing.T) {
	r := rand.New(rand.NewPCG(24, 6))
	for _, p := range samples() {
		for _, event := range events(r, p) {
			for announcer := range p.Cells {
				told := posteriors(t, p, announcer, event)
				q, e := agreement.Announce(p, announcer, event)
				if agreement.Check(q) != api.OK || !slices.Equal(q.Weight, p.Weight) || len(q.Cells) != len(p.Cells) || e != api.OK {
					t.Fatalf("Announce(%v, %d, %b) is %v, %d", p, announcer, event, q, e)
				}
				m, e := agreement.Model(q)
				if e != api.OK {
					t.Fatal(q, e)
				}
				for agent, cells := range q.Cells {
					if !partition.Refines(cells, p.Cells[agent]) {
						t.Errorf("Announce(%v, %d, %b) is %v", p, announcer, event, q)
					}
					checkKnows(t, m, agent, told)
				}
			}
		}
	}
}

// checkKnows checks that at each world an agent of a model knows the fraction that a list has there.
func checkKnows(t *testing.T, m api.Model, agent int, told []api.Fraction) {
	t.Helper()
	m.Val = []uint64{0}
	for w, f := range told {
		m.Val[0] = 0
		for v, g := range told {
			if f == g {
				m.Val[0] |= 1 << v
			}
		}
		if knows, e := checker.At(m, w, formula.Know(agent, formula.Fact(0))); !knows || e != api.OK {
			t.Errorf("%d does not know %v at %d of %v, %d", agent, f, w, m, e)
		}
	}
}

// TestCommonKnowledge is P24.4: Common is common knowledge at the world, and so is no smaller event that contains it.
func TestCommonKnowledge(t *testing.T) {
	for _, p := range samples() {
		m, e := agreement.Model(p)
		if e != api.OK || len(p.Cells) == 0 {
			continue
		}
		f := formula.Common(1<<len(p.Cells)-1, formula.True(), formula.Fact(0))
		for w := range p.Weight {
			common, _ := agreement.Common(p, w)
			for v := range p.Weight {
				m.Val = []uint64{common &^ (1 << v)}
				if yes, e := checker.At(m, w, f); yes == has(common, v) || e != api.OK {
					t.Fatalf("Common(%v, %d) is %b, and without %d: %t, %d", p, w, common, v, yes, e)
				}
			}
		}
	}
}

// checkAgreement is P24.6 for a prior and an event: where the posteriors of all agents are constant on Common, they are equal. It returns in how many worlds of several cells this is so.
func checkAgreement(t *testing.T, p api.Prior, event uint64) int {
	t.Helper()
	found := 0
	for w := range p.Weight {
		common, e := agreement.Common(p, w)
		if e != api.OK {
			t.Fatal(p, w, e)
		}
		constant := true
		for agent := range p.Cells {
			l := posteriors(t, p, agent, event)
			for v, f := range l {
				constant = constant && (!has(common, v) || f == l[w])
			}
		}
		if !constant {
			continue
		}
		if yes, e := agreement.Agree(p, w, event); !yes || e != api.OK {
			t.Errorf("Agree(%v, %d, %b): %t, %d", p, w, event, yes, e)
		}
		if len(p.Cells) > 1 && common != cellOf(p, 0, w) {
			found++
		}
	}
	return found
}

// TestAgreement is P24.6: the agents cannot agree to disagree, and after an exchange they agree.
func TestAgreement(t *testing.T) {
	r := rand.New(rand.NewPCG(24, 7))
	found, disagree := 0, 0
	priors := slices.Concat(samples(), small(r, 4), small(r, 5))
	for _, p := range priors {
		for _, event := range events(r, p) {
			found += checkAgreement(t, p, event)
			l, e := agreement.Exchange(p, event)
			if e != api.OK || len(l)-1 > len(p.Weight)*len(p.Cells) {
				t.Fatalf("Exchange(%v, %b) has %d elements, %d", p, event, len(l), e)
			}
			for w := range p.Weight {
				if yes, e := agreement.Agree(l[len(l)-1], w, event); !yes || e != api.OK {
					t.Fatalf("Agree at %d after %v: %t, %d", w, l, yes, e)
				}
				if yes, _ := agreement.Agree(p, w, event); !yes {
					disagree++
				}
			}
		}
	}
	if found < 100 || disagree < 1000 {
		t.Error("worlds at which all is common knowledge, and worlds of disagreement:", found, disagree)
	}
}

// mark stands in the spare capacity of arguments.
const mark = 77

// spare returns a copy of a prior whose lists have spare capacity with marks.
func spare(p api.Prior) api.Prior {
	c := api.Prior{Weight: append(slices.Clone(p.Weight), mark)[:len(p.Weight)]}
	for _, cells := range p.Cells {
		c.Cells = append(c.Cells, append(slices.Clone(cells), mark)[:len(cells)])
	}
	c.Cells = append(c.Cells, []int{mark})[:len(c.Cells)]
	return c
}

// isKept reports whether a prior that spare returned is still p, with its marks.
func isKept(c, p api.Prior) bool {
	marks := c.Weight[:len(c.Weight)+1][len(c.Weight)] == mark && slices.Equal(c.Cells[:len(c.Cells)+1][len(c.Cells)], []int{mark})
	for _, cells := range c.Cells {
		marks = marks && cells[:len(cells)+1][len(cells)] == mark
	}
	return marks && samePrior(c, p)
}

// fill overwrites a list with its spare capacity.
func fill[T any](l []T, with T) {
	l = l[:cap(l)]
	for i := range l {
		l[i] = with
	}
}

// fillPriors overwrites the lists of priors one after the other, and reports whether none shares memory with another one.
func fillPriors(priors []api.Prior) bool {
	lists := [][]int{}
	for _, p := range priors {
		lists = append(append(lists, p.Weight), p.Cells...)
	}
	before := [][]int{}
	for _, l := range lists {
		before = append(before, slices.Clone(l))
	}
	for i, l := range lists {
		if !slices.Equal(l, before[i]) {
			return false
		}
		fill(l, 99)
	}
	for i, p := range priors {
		fill(p.Cells, nil)
		if i+1 < len(priors) && slices.ContainsFunc(priors[i+1].Cells, func(l []int) bool { return l == nil }) {
			return false
		}
	}
	return true
}

// TestPriors is P24.5 for Announce, Round and Exchange.
func TestPriors(t *testing.T) {
	r := rand.New(rand.NewPCG(24, 8))
	for _, p := range samples() {
		for _, event := range events(r, p) {
			c := spare(p)
			results := func() []api.Prior {
				l, _ := agreement.Exchange(c, event)
				next, _ := agreement.Round(c, event)
				told, _ := agreement.Announce(c, 0, event)
				return append(l, next, told)
			}
			want, kept := results(), results()
			if !fillPriors(results()) {
				t.Errorf("results of %v, %b share memory", p, event)
			}
			if !slices.EqualFunc(kept, want, samePrior) || !slices.EqualFunc(results(), want, samePrior) {
				t.Errorf("results of %v, %b have changed: %v", p, event, kept)
			}
			if !isKept(c, p) {
				t.Errorf("an argument has changed: %v, not %v", c, p)
			}
		}
	}
}

// TestOthers is P24.5 for the other functions.
func TestOthers(t *testing.T) {
	r := rand.New(rand.NewPCG(24, 9))
	for _, p := range samples() {
		c := spare(p)
		event := events(r, p)[4]
		m, _ := agreement.Model(c)
		other, _ := agreement.Model(c)
		for agent, row := range other.Rel {
			if !slices.Equal(row, m.Rel[agent]) {
				t.Errorf("relations of Model(%v) share memory", p)
			}
			fill(row, 99)
		}
		fill(other.Rel, nil)
		if again, _ := agreement.Model(c); !model.Same(again, m) || model.Check(m) != api.OK {
			t.Errorf("Model(%v) has changed: %v", p, m)
		}
		l, _ := agreement.Posteriors(c, 0, event)
		more, _ := agreement.Posteriors(c, 0, event)
		fill(more, api.Fraction{Num: mark})
		if again, _ := agreement.Posteriors(c, 0, event); !slices.Equal(again, l) || slices.Contains(l, api.Fraction{Num: mark}) {
			t.Errorf("Posteriors(%v, 0, %b) have changed: %v", p, event, l)
		}
		agreement.Posterior(c, 0, 0, event)
		agreement.Common(c, 0)
		agreement.Agree(c, 0, event)
		agreement.Check(c)
		if !isKept(c, p) {
			t.Errorf("an argument has changed: %v, not %v", c, p)
		}
	}
}
