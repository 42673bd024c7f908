package action_test

import (
	"math/rand/v2"
	"slices"
	"testing"

	"witting/action"
	"witting/api"
)

// TestConsequences is P26.2: results are valid, generated parts are closed and stay as they are, and announcements are in all logics.
func TestConsequences(t *testing.T) {
	r := rand.New(rand.NewPCG(26, 7))
	for agents := range 5 {
		skip, e := action.Skip(agents)
		public, g := action.Public(agents, randomFormula(r, 20, agents, 8))
		if e != api.OK || g != api.OK {
			t.Error(agents, e, g)
		}
		for _, a := range []api.Action{skip, public} {
			if e := action.Check(a, agents, api.MaxFacts); e != api.OK {
				t.Errorf("Check(%v) is %d", a, e)
			}
			for logic := range 7 {
				if !action.In(a, logic) {
					t.Errorf("In(%v, %d)", a, logic)
				}
			}
		}
	}
	for _, a := range samples() {
		for event := range a.Pre {
			part, events, e := action.Generated(a, event)
			if g := action.Check(part, len(a.Rel), api.MaxFacts); e != api.OK || g != api.OK {
				t.Fatalf("Generated(%v, %d) is %v, %d, %d", a, event, part, e, g)
			}
			again, all, e := action.Generated(part, slices.Index(events, event))
			if !action.Same(again, part) || len(all) != len(events) || e != api.OK {
				t.Errorf("Generated(%v, %d) again is %v, %v, %d", a, event, again, all, e)
			}
			for _, row := range a.Rel {
				for _, from := range events {
					for to := range a.Pre {
						if has(row[from], to) && !slices.Contains(events, to) {
							t.Errorf("a step from %d to %d leads out of the part of %v", from, to, a)
						}
					}
				}
			}
		}
	}
}

// mark stands in the spare capacity of arguments.
const mark = 77

// spare returns a copy of a list whose spare capacity has a mark.
func spare[T any](l []T, with T) []T {
	return append(slices.Clone(l), with)[:len(l)]
}

// behind returns the element that stands in the spare capacity of a list.
func behind[T any](l []T) T {
	return l[:len(l)+1][len(l)]
}

// spareAction returns a copy of an action model whose lists have spare capacity with marks.
func spareAction(a api.Action) api.Action {
	node, assign := api.Node{Op: mark}, api.Assign{Fact: mark}
	c := copied(a)
	for e, f := range c.Pre {
		c.Pre[e] = spare(f, node)
		for i := range c.Post[e] {
			c.Post[e][i].To = spare(c.Post[e][i].To, node)
		}
		c.Post[e] = spare(c.Post[e], assign)
	}
	for agent, row := range c.Rel {
		c.Rel[agent] = spare(row, mark)
	}
	return api.Action{Pre: spare(c.Pre, []api.Node{node}), Post: spare(c.Post, []api.Assign{assign}), Rel: spare(c.Rel, []uint64{mark})}
}

// isKept reports whether an action model that spareAction returned is still a, with its marks.
func isKept(c, a api.Action) bool {
	marks := behind(c.Pre)[0].Op == mark && behind(c.Post)[0].Fact == mark && behind(c.Rel)[0] == mark
	for e, f := range c.Pre {
		marks = marks && behind(f).Op == mark && behind(c.Post[e]).Fact == mark
		for _, assign := range c.Post[e] {
			marks = marks && behind(assign.To).Op == mark
		}
	}
	for _, row := range c.Rel {
		marks = marks && behind(row) == mark
	}
	return marks && sameLists(c, a, slices.Equal)
}

// fill overwrites a list with its spare capacity.
func fill[T any](l []T, with T) {
	l = l[:cap(l)]
	for i := range l {
		l[i] = with
	}
}

// fillAction overwrites the lists of an action model one after the other, and reports whether none shares memory with another one.
func fillAction(a api.Action) bool {
	c := copied(a)
	for e, f := range a.Pre {
		if !slices.Equal(f, c.Pre[e]) {
			return false
		}
		fill(f, api.Node{Op: 99})
		for i, assign := range a.Post[e] {
			if !slices.Equal(assign.To, c.Post[e][i].To) {
				return false
			}
			fill(assign.To, api.Node{Op: 99})
		}
		for i, assign := range a.Post[e] {
			if assign.Fact != c.Post[e][i].Fact {
				return false
			}
		}
		fill(a.Post[e], api.Assign{Fact: 99})
	}
	for agent, row := range a.Rel {
		if !slices.Equal(row, c.Rel[agent]) {
			return false
		}
		fill(row, 99)
	}
	fill(a.Pre, nil)
	fill(a.Post, nil)
	fill(a.Rel, nil)
	return true
}

// TestMemory is the rule 'Values' of DOC.md: arguments stay as they are, with their spare capacity, and results share nothing with them or with other results.
func TestMemory(t *testing.T) {
	r := rand.New(rand.NewPCG(26, 8))
	for _, a := range samples() {
		agents, event := len(a.Rel), r.IntN(len(a.Pre))
		c, f := spareAction(a), spare(randomFormula(r, 10, agents, 8), api.Node{Op: mark})
		g := slices.Clone(f)
		makers := []func() api.Action{
			func() api.Action { b, _ := action.Skip(agents); return b },
			func() api.Action { b, _ := action.Public(agents, f); return b },
			func() api.Action { b, _, _ := action.Generated(c, event); return b },
		}
		for i, make := range makers {
			want, kept, other := copied(make()), make(), make()
			if !fillAction(other) {
				t.Errorf("lists of the call %d with %v share memory", i, a)
			}
			if !sameLists(make(), want, slices.Equal) || !sameLists(kept, want, slices.Equal) {
				t.Errorf("results of the call %d with %v have changed: %v", i, a, kept)
			}
		}
		_, events, _ := action.Generated(c, event)
		fill(events, 99)
		for fact := range 8 {
			value, _ := action.Value(c, event, fact)
			fill(value, api.Node{Op: 99})
		}
		for group := range 1 << agents {
			fill(action.Group(c, group), 99)
			fill(action.Meet(c, group), 99)
		}
		action.In(c, api.LogicS5)
		action.Same(c, c)
		action.Check(c, agents, 8)
		if !isKept(c, a) || !slices.Equal(f, g) || behind(f).Op != mark {
			t.Errorf("an argument has changed: %v, %v", c, f)
		}
	}
}
