package model_test

import (
	"math/rand/v2"
	"slices"
	"testing"

	"witting/api"
	"witting/model"
)

// mark stands in the spare capacity of arguments.
const mark = 77

// spare returns a copy of a model whose lists have spare capacity with marks.
func spare(m api.Model) api.Model {
	c := clone(m)
	c.Val = append(c.Val, mark)[:len(c.Val)]
	for a, r := range c.Rel {
		c.Rel[a] = append(r, mark)[:len(r)]
	}
	c.Rel = append(c.Rel, []uint64{mark})[:len(c.Rel)]
	return c
}

// isKept reports whether a model that spare returned is still m, with its marks.
func isKept(c, m api.Model) bool {
	marks := c.Val[:len(c.Val)+1][len(c.Val)] == mark && slices.Equal(c.Rel[:len(c.Rel)+1][len(c.Rel)], []uint64{mark})
	for _, r := range c.Rel {
		marks = marks && r[:len(r)+1][len(r)] == mark
	}
	return marks && model.Same(c, m)
}

// fill overwrites a list, with its spare capacity.
func fill[T int | uint64](l []T) {
	l = l[:cap(l)]
	for i := range l {
		l[i] = 99
	}
}

// fillModel overwrites all lists of a model.
func fillModel(m api.Model) {
	fill(m.Val)
	for _, r := range m.Rel {
		fill(r)
	}
	rows := m.Rel[:cap(m.Rel)]
	for i := range rows {
		rows[i] = nil
	}
}

// results returns what the functions make of two models and a permutation.
func results(a, b api.Model, to []int) []api.Model {
	whole, _, _ := model.Restrict(a, worldsBelow(a.Worlds))
	part, _, _ := model.Restrict(a, worldsBelow(a.Worlds)&^2)
	union, _ := model.Union(a, b)
	twice, _ := model.Union(a, a)
	renamed, _ := model.Rename(a, to)
	return []api.Model{whole, part, union, twice, renamed}
}

// TestMemory is the rule 'Values' of DOC.md: arguments stay as they are, with their spare capacity, and results share nothing with them or with other results.
func TestMemory(t *testing.T) {
	r := rand.New(rand.NewPCG(13, 7))
	for _, m := range []api.Model{example(), random(r, 20, 3, 2), random(r, 32, 8, 4), {Worlds: 2}} {
		a, b := spare(m), spare(m)
		same := permutations(r, m.Worlds)[0]
		to := append(slices.Clone(same), mark)[:m.Worlds]
		want, kept := results(m, m, same), results(a, b, to)
		for _, result := range results(a, b, to) {
			fillModel(result)
		}
		for group := range 1 << len(m.Rel) {
			union, meet := model.Group(m, group), model.Meet(m, group)
			fill(model.Group(a, group))
			fill(model.Meet(a, group))
			if !slices.Equal(model.Group(a, group), union) || !slices.Equal(model.Meet(a, group), meet) {
				t.Errorf("the relation of the group %d of %v has changed", group, m)
			}
		}
		model.Generated(a, 1)
		if !isKept(a, m) || !isKept(b, m) || !slices.Equal(to, same) || to[:m.Worlds+1][m.Worlds] != mark {
			t.Errorf("an argument has changed: %v, %v, %v", a, b, to)
		}
		for i, result := range kept {
			if !model.Same(result, want[i]) {
				t.Errorf("the result %d of %v has changed: %v", i, m, result)
			}
		}
	}
}

// TestListsOfAResult is the rule 'Values' of DOC.md: the lists of one result share no memory with each other.
func TestListsOfAResult(t *testing.T) {
	all := slices.Repeat([]uint64{255}, 8)
	m := api.Model{Worlds: 8, Val: []uint64{1, 2}, Rel: [][]uint64{all, all, all, all}}
	for i, result := range results(m, m, permutations(rand.New(rand.NewPCG(13, 8)), 8)[0]) {
		before := clone(result)
		fill(result.Val)
		for a := range result.Rel {
			if !slices.Equal(result.Rel[a], before.Rel[a]) {
				t.Errorf("the relation of %d in the result %d shares memory", a, i)
			}
			fill(result.Rel[a])
		}
	}
}
