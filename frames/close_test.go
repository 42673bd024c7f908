package frames_test

import (
	"slices"
	"testing"

	"witting/api"
	"witting/frames"
	"witting/model"
)

// addPairs returns the relation that results if pairs that the properties of a logic demand are added one after the other, and then loops where there is no successor and the logic is serial.
func addPairs(r []uint64, logic int) []uint64 {
	c := slices.Clone(r)
	properties := propertiesOf()[logic]
	for changed := true; changed; {
		changed = false
		for _, property := range properties {
			if property == api.PropSerial {
				continue
			}
			for _, l := range lists(c, property) {
				// The pair that is missing: of one world with itself, from the first world to the last one, or between the last two.
				from := l[0]
				if property == api.PropEuclidean {
					from = l[1]
				}
				c[from] |= 1 << l[len(l)-1]
				changed = true
			}
		}
	}
	if slices.Contains(properties, api.PropSerial) {
		for w := range c {
			if c[w] == 0 {
				c[w] = 1 << w
			}
		}
	}
	return c
}

// one returns a model with one agent.
func one(r []uint64) api.Model {
	return api.Model{Worlds: len(r), Rel: [][]uint64{r}}
}

// TestClose is P15.2 for a single agent.
func TestClose(t *testing.T) {
	for _, r := range append(small(), large()...) {
		if len(r) == 0 {
			continue
		}
		for logic := range propertiesOf() {
			got, e := frames.Close(one(r), logic)
			if want := one(addPairs(r, logic)); e != api.OK || !model.Same(got, want) {
				t.Errorf("Close(%x, %d) is %x, %d", r, logic, got, e)
			}
		}
	}
}

// TestCloseAgents is P15.2 for several agents, each of which has its own relation.
func TestCloseAgents(t *testing.T) {
	for _, m := range models() {
		for logic := range propertiesOf() {
			want := api.Model{Worlds: m.Worlds, Val: m.Val}
			for _, r := range m.Rel {
				want.Rel = append(want.Rel, addPairs(r, logic))
			}
			if got, e := frames.Close(m, logic); e != api.OK || !model.Same(got, want) {
				t.Errorf("Close(%v, %d) is %v, %d", m, logic, got, e)
			}
		}
	}
}

// TestCloseConsequences is part of P15.6: Close gives models of the logic, and changes those in nothing.
func TestCloseConsequences(t *testing.T) {
	for _, m := range models() {
		for logic := range propertiesOf() {
			c, _ := frames.Close(m, logic)
			if again, e := frames.Close(c, logic); e != api.OK || !frames.In(c, logic) || !model.Same(again, c) {
				t.Errorf("Close twice (%v, %d) is %v, %d", m, logic, again, e)
			}
			if frames.In(m, logic) && !model.Same(c, m) {
				t.Errorf("Close(%v, %d) changes it to %v", m, logic, c)
			}
		}
	}
}

// TestLeast is part of P15.6: without the property serial the result is contained in each model of the logic that contains the relation.
func TestLeast(t *testing.T) {
	for n := 1; n <= 3; n++ {
		for logic, properties := range propertiesOf() {
			if slices.Contains(properties, api.PropSerial) {
				continue
			}
			all := relations(n)
			with := slices.DeleteFunc(slices.Clone(all), func(r []uint64) bool { return !frames.Has(r, logic) })
			for _, r := range all {
				c, _ := frames.Close(one(r), logic)
				if !contains(c.Rel[0], r) {
					t.Errorf("Close(%x, %d) is %x", r, logic, c.Rel[0])
				}
				for _, s := range with {
					if contains(s, r) && !contains(s, c.Rel[0]) {
						t.Errorf("Close(%x, %d) is %x, more than %x", r, logic, c.Rel[0], s)
					}
				}
			}
		}
	}
}

// contains reports whether all pairs of s belong to r.
func contains(r, s []uint64) bool {
	for w := range s {
		if s[w]&^r[w] != 0 {
			return false
		}
	}
	return true
}

// TestErrors is part of P15.2 and P15.3: the error of the model comes first.
func TestErrors(t *testing.T) {
	fails := func(m api.Model, logic, want int) {
		t.Helper()
		if c, e := frames.Close(m, logic); e != want || c.Worlds != 0 || len(c.Val) != 0 || len(c.Rel) != 0 {
			t.Errorf("Close(%v, %d) is %v, %d", m, logic, c, e)
		}
		if l, e := frames.Defects(m, logic); e != want || len(l) != 0 {
			t.Errorf("Defects(%v, %d) is %v, %d", m, logic, l, e)
		}
	}
	for want, l := range notValid() {
		for _, m := range l {
			for logic := range propertiesOf() {
				fails(m, logic, want)
			}
			for _, logic := range noLogics() {
				fails(m, logic, want)
			}
		}
	}
	for _, m := range models() {
		for _, logic := range noLogics() {
			fails(m, logic, api.ErrArg)
		}
	}
}

// mark stands in the spare capacity of arguments.
const mark = 77

// spare returns a copy of a model whose lists have spare capacity with marks.
func spare(m api.Model) api.Model {
	c := api.Model{Worlds: m.Worlds, Val: append(slices.Clone(m.Val), mark)[:len(m.Val)]}
	for _, r := range m.Rel {
		c.Rel = append(c.Rel, append(slices.Clone(r), mark)[:len(r)])
	}
	c.Rel = append(c.Rel, []uint64{mark})[:len(m.Rel)]
	return c
}

// isKept reports whether a model that spare returned is still m, with its marks.
func isKept(c, m api.Model) bool {
	marks := c.Val[:len(c.Val)+1][len(c.Val)] == mark && slices.Equal(c.Rel[:len(c.Rel)+1][len(c.Rel)], []uint64{mark})
	for _, r := range c.Rel {
		marks = marks && r[:len(r)+1][len(r)] == mark
	}
	return marks && model.Same(c, m)
}

// fill overwrites a list, with its spare capacity.
func fill[T int | uint64](l []T) {
	l = l[:cap(l)]
	for i := range l {
		l[i] = 99
	}
}

// TestMemory is the rule 'Values' of DOC.md: arguments stay as they are, and results share nothing with them or with each other.
func TestMemory(t *testing.T) {
	for _, m := range models() {
		for logic := range propertiesOf() {
			a := spare(m)
			want, _ := frames.Close(m, logic)
			defects, _ := frames.Defects(m, logic)
			kept, _ := frames.Close(a, logic)
			c, _ := frames.Close(a, logic)
			fill(c.Val)
			for _, r := range c.Rel {
				fill(r)
			}
			shown, _ := frames.Defects(a, logic)
			lists, _ := frames.Defects(a, logic)
			for _, d := range lists {
				fill(d.Worlds)
			}
			frames.In(a, logic)
			for _, r := range a.Rel {
				frames.Has(r, logic)
				for property := 1; property <= 5; property++ {
					frames.Counter(r, property)
				}
			}
			if !isKept(a, m) || !model.Same(kept, want) || !slices.EqualFunc(shown, defects, sameDefect) {
				t.Errorf("something has changed: %v, %v, %v", a, kept, shown)
			}
		}
	}
}

// TestListsOfAResult is the rule 'Values' of DOC.md: the relations of one result share no memory with each other, also if those of the argument do.
func TestListsOfAResult(t *testing.T) {
	for _, r := range [][]uint64{{2, 4, 0}, {7, 7, 7}, {0, 0, 0}} {
		for logic := range propertiesOf() {
			c, _ := frames.Close(api.Model{Worlds: 3, Rel: slices.Repeat([][]uint64{r}, 4)}, logic)
			for a := range c.Rel {
				if want := addPairs(r, logic); !slices.Equal(c.Rel[a], want) {
					t.Errorf("Close(%x, %d): the relation of %d is %x", r, logic, a, c.Rel[a])
				}
				fill(c.Rel[a])
			}
			l, _ := frames.Defects(api.Model{Worlds: 3, Rel: slices.Repeat([][]uint64{r}, 4)}, logic)
			for _, d := range l {
				if !slices.Equal(d.Worlds, least(r, d.Property)) {
					t.Errorf("Defects(%x, %d): the defect of %d is %v", r, logic, d.Agent, d)
				}
				fill(d.Worlds)
			}
		}
	}
}
