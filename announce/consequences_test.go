package announce_test

import (
	"math/rand/v2"
	"slices"
	"testing"

	"witting/announce"
	"witting/api"
	"witting/checker"
	"witting/formula"
	"witting/model"
	"witting/relation"
)

// holds returns where a formula holds that fits a model.
func holds(t *testing.T, m api.Model, f []api.Node) uint64 {
	t.Helper()
	set, e := checker.Holds(m, f)
	if e != api.OK {
		t.Fatalf("Holds(%v, %v): %d", m, f, e)
	}
	return set
}

// propositional returns a random formula about facts of a model, without agents.
func propositional(r *rand.Rand, m api.Model) []api.Node {
	return randomFormula(r, 1+r.IntN(10), 0, len(m.Val))
}

// TestPromise is P25.7: a formula holds after an announcement where [p] promised it.
func TestPromise(t *testing.T) {
	r := rand.New(rand.NewPCG(25, 5))
	for _, m := range slices.Concat(small(1), small(2), samples()) {
		for range 6 {
			p, q := randomFormula(r, 1+r.IntN(8), len(m.Rel), len(m.Val)), randomFormula(r, 1+r.IntN(12), len(m.Rel), len(m.Val))
			after, worlds, e := announce.Update(m, p)
			if e != api.OK {
				continue
			}
			promised := holdsIn(m, holds(t, m, p), q)
			if got := holds(t, after, q); got != partOf(promised, worlds) {
				t.Errorf("after %v in %v, %v holds at %b of %v", p, m, q, got, worlds)
			}
		}
	}
}

// TestKnowledgePromised is P25.7 with a static formula: after p, an agent knows q where p implies that it knows that p implies q, for propositional q.
func TestKnowledgePromised(t *testing.T) {
	r := rand.New(rand.NewPCG(25, 6))
	for _, m := range samples() {
		for agent := range m.Rel {
			p, q := formulas(r, 1, m)[0], propositional(r, m)
			after, worlds, e := announce.Update(m, p)
			if e != api.OK {
				continue
			}
			promised := holds(t, m, formula.Know(agent, formula.Imp(p, q)))
			if got := holds(t, after, formula.Know(agent, q)); got != partOf(promised, worlds) {
				t.Errorf("after %v in %v, agent %d knows %v at %b of %v", p, m, agent, q, got, worlds)
			}
		}
	}
}

// TestPropositional is P25.7: announced facts become common knowledge, propositional formulas are successful, and "p, and you do not know it" never is.
func TestPropositional(t *testing.T) {
	r := rand.New(rand.NewPCG(25, 7))
	for _, m := range slices.Concat(small(1), small(2), small(3), samples()) {
		l := [][]api.Node{propositional(r, m), propositional(r, m)}
		for fact := range m.Val {
			l = append(l, formula.Fact(fact))
		}
		for _, p := range l {
			if set := holds(t, m, p); checkSuccessful(t, m, p) != 0 {
				t.Errorf("%v is not successful at all of %b in %v", p, set, m)
			}
			if after, _, e := announce.Update(m, p); e == api.OK && len(m.Rel) > 0 {
				group := 1<<len(m.Rel) - 1
				if common, e := checker.Valid(after, formula.Common(group, formula.True(), p)); !common || e != api.OK {
					t.Errorf("%v is not common knowledge after its announcement in %v", p, m)
				}
			}
			for agent := range m.Rel {
				f := unknown(agent, p)
				for _, w := range listOf(holds(t, m, f)) {
					if yes, e := announce.Successful(m, w, f); yes || e != api.OK {
						t.Errorf("%v is successful at %d in %v: %d", f, w, m, e)
					}
				}
			}
		}
	}
}

// TestOneForTwo is P25.7: two announcements are replaced by the one of "p, and after p q".
func TestOneForTwo(t *testing.T) {
	r := rand.New(rand.NewPCG(25, 8))
	for _, m := range samples() {
		for range 6 {
			p, q := formulas(r, 1, m)[0], propositional(r, m)
			// The second part is what q says before the announcement of p.
			cases := [][2][]api.Node{{q, q}}
			for agent := range m.Rel {
				cases = append(cases, [2][]api.Node{formula.Know(agent, q), formula.Know(agent, formula.Imp(p, q))}, [2][]api.Node{formula.Poss(agent, q), formula.Poss(agent, formula.And(p, q))})
			}
			for _, c := range cases {
				two, worlds, n, e := announce.Sequence(m, [][]api.Node{p, c[0]})
				one, sameWorlds, g := announce.Update(m, formula.And(p, c[1]))
				if !model.Same(one, two) || !slices.Equal(worlds, sameWorlds) || e != g || e == api.OK && n != 2 {
					t.Errorf("%v and %v in %v: %v, %d, and at once %v, %d", p, c[0], m, two, e, one, g)
				}
			}
		}
	}
}

// TestConditions is P25.7: restriction keeps reflexive, transitive, symmetric and euclidean relations, but not serial ones.
func TestConditions(t *testing.T) {
	r := rand.New(rand.NewPCG(25, 9))
	kept := map[int]int{}
	for _, m := range slices.Concat(small(1), small(2), small(3), samples()) {
		f := randomFormula(r, 1+r.IntN(6), len(m.Rel), len(m.Val))
		after, _, e := announce.Update(m, f)
		if e != api.OK {
			continue
		}
		for agent := range m.Rel {
			for _, property := range []int{api.PropReflexive, api.PropTransitive, api.PropSymmetric, api.PropEuclidean} {
				if !relation.Has(m.Rel[agent], property) {
					continue
				}
				kept[property]++
				if !relation.Has(after.Rel[agent], property) {
					t.Errorf("the property %d is lost after %v in %v", property, f, m)
				}
			}
		}
	}
	if len(kept) != 4 {
		t.Error("properties:", kept)
	}
	serial := api.Model{Worlds: 2, Val: []uint64{1}, Rel: [][]uint64{{2, 2}}}
	after, _, e := announce.Update(serial, formula.Fact(0))
	if !relation.Has(serial.Rel[0], api.PropSerial) || relation.Has(after.Rel[0], api.PropSerial) || e != api.OK {
		t.Error("a serial relation:", after, e)
	}
}

// mark stands in the spare capacity of arguments.
const mark = 77

// spare returns a copy of a list whose spare capacity has a mark.
func spare[T any](l []T, with T) []T {
	return append(slices.Clone(l), with)[:len(l)]
}

// behind returns the element that stands in the spare capacity of a list.
func behind[T any](l []T) T {
	return l[:len(l)+1][len(l)]
}

// spareModel returns a copy of a model whose lists have spare capacity with marks.
func spareModel(m api.Model) api.Model {
	c := api.Model{Worlds: m.Worlds, Val: spare(m.Val, mark)}
	for _, r := range m.Rel {
		c.Rel = append(c.Rel, spare(r, mark))
	}
	c.Rel = spare(c.Rel, []uint64{mark})
	return c
}

// isKept reports whether a model that spareModel returned is still m, with its marks.
func isKept(c, m api.Model) bool {
	marks := behind(c.Val) == mark && slices.Equal(behind(c.Rel), []uint64{mark})
	for _, r := range c.Rel {
		marks = marks && behind(r) == mark
	}
	return marks && model.Same(c, m)
}

// spareFormulas returns copies of formulas whose lists have spare capacity with marks.
func spareFormulas(l [][]api.Node) [][]api.Node {
	c := [][]api.Node{}
	for _, f := range l {
		c = append(c, spare(f, api.Node{Op: mark}))
	}
	return spare(c, []api.Node{{Op: mark}})
}

// areKept reports whether formulas that spareFormulas returned are still those of l, with their marks.
func areKept(c, l [][]api.Node) bool {
	marks := slices.Equal(behind(c), []api.Node{{Op: mark}})
	for _, f := range c {
		marks = marks && behind(f).Op == mark
	}
	return marks && slices.EqualFunc(c, l, slices.Equal[[]api.Node])
}

// fill overwrites a list with its spare capacity.
func fill[T any](l []T, with T) {
	l = l[:cap(l)]
	for i := range l {
		l[i] = with
	}
}

// fillModel overwrites the lists of a model one after the other, and reports whether none shares memory with another one.
func fillModel(m api.Model) bool {
	before := [][]uint64{}
	for _, r := range m.Rel {
		before = append(before, slices.Clone(r))
	}
	fill(m.Val, 99)
	for agent, r := range m.Rel {
		if !slices.Equal(r, before[agent]) {
			return false
		}
		fill(r, 99)
	}
	fill(m.Rel, nil)
	return true
}

// updates returns calls of the functions that return models, with the lists that stand beside them.
func updates(m api.Model, l [][]api.Node) []func() (api.Model, []int) {
	return []func() (api.Model, []int){
		func() (api.Model, []int) { after, worlds, _ := announce.Update(m, l[0]); return after, worlds },
		func() (api.Model, []int) { after, worlds, _, _ := announce.Sequence(m, nil); return after, worlds },
		func() (api.Model, []int) { after, worlds, _, _ := announce.Sequence(m, l[:1]); return after, worlds },
		func() (api.Model, []int) { after, worlds, _, _ := announce.Sequence(m, l); return after, worlds },
		func() (api.Model, []int) { after, worlds, _, _ := announce.Repeat(m, l[0]); return after, worlds },
		func() (api.Model, []int) { after, _ := announce.Whether(m, l[0]); return after, nil },
	}
}

// TestMemory is the rule 'Values' of DOC.md: arguments stay as they are, with their spare capacity, and results share nothing with them or with other results.
func TestMemory(t *testing.T) {
	r := rand.New(rand.NewPCG(25, 10))
	for _, m := range samples() {
		l := [][]api.Node{formula.True()}
		for _, f := range formulas(r, 3, m) {
			l = append(l, f, formula.Not(f))
		}
		for range 4 {
			r.Shuffle(len(l), func(i, j int) { l[i], l[j] = l[j], l[i] })
			c, list := spareModel(m), spareFormulas(l)
			for i, update := range updates(c, list) {
				want, wantWorlds := update()
				after, worlds := update()
				other, otherWorlds := update()
				if !fillModel(other) {
					t.Errorf("lists of the call %d with %v, %v share memory", i, m, l)
				}
				fill(otherWorlds, 99)
				if again, _ := update(); !model.Same(again, want) || !model.Same(after, want) || !slices.Equal(worlds, wantWorlds) {
					t.Errorf("results of the call %d with %v, %v have changed: %v, %v", i, m, l, after, worlds)
				}
			}
			announce.Successful(c, 0, list[0])
			learnt, lost, _ := announce.Change(c, 0, list[0], 0, list)
			wantLearnt, wantLost := slices.Clone(learnt), slices.Clone(lost)
			fill(learnt, 99)
			if !slices.Equal(lost, wantLost) {
				t.Errorf("lists of Change with %v, %v share memory", m, l)
			}
			fill(lost, 99)
			if a, b, _ := announce.Change(c, 0, list[0], 0, list); !slices.Equal(a, wantLearnt) || !slices.Equal(b, wantLost) {
				t.Errorf("Change with %v, %v has changed", m, l)
			}
			if !isKept(c, m) || !areKept(list, l) {
				t.Errorf("an argument has changed: %v, %v", c, list)
			}
		}
	}
}
