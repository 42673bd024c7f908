package observe_test

import (
	"math/rand/v2"
	"slices"
	"testing"

	"witting/api"
	"witting/formula"
	"witting/model"
	"witting/observe"
)

// mark stands in the spare capacity of arguments.
const mark = 77

// spare returns a copy of a model whose lists have spare capacity with marks.
func spare(m api.Model) api.Model {
	c := api.Model{Worlds: m.Worlds, Val: append(slices.Clone(m.Val), mark)[:len(m.Val)]}
	for _, r := range m.Rel {
		c.Rel = append(c.Rel, append(slices.Clone(r), mark)[:len(r)])
	}
	c.Rel = append(c.Rel, []uint64{mark})[:len(c.Rel)]
	return c
}

// isKept reports whether a model that spare returned is still m, with its marks.
func isKept(c, m api.Model) bool {
	marks := c.Val[:len(c.Val)+1][len(c.Val)] == mark && slices.Equal(c.Rel[:len(c.Rel)+1][len(c.Rel)], []uint64{mark})
	for _, r := range c.Rel {
		marks = marks && r[:len(r)+1][len(r)] == mark
	}
	return marks && model.Same(c, m)
}

// fill overwrites a list with its spare capacity.
func fill[T any](l []T, with T) {
	l = l[:cap(l)]
	for i := range l {
		l[i] = with
	}
}

// fillModel overwrites the lists of a model one after the other, and reports whether none shares memory with another one.
func fillModel(m api.Model) bool {
	before := api.Model{Worlds: m.Worlds, Val: m.Val}
	for _, r := range m.Rel {
		before.Rel = append(before.Rel, slices.Clone(r))
	}
	fill(m.Val, 99)
	for agent, r := range m.Rel {
		if !slices.Equal(r, before.Rel[agent]) {
			return false
		}
		fill(r, 99)
	}
	fill(m.Rel, nil)
	return true
}

// TestModels is P22.7 for Reveal, Informed and Product: models as arguments stay as they are, with their spare capacity, and results share nothing with them or with other results.
func TestModels(t *testing.T) {
	r := rand.New(rand.NewPCG(22, 13))
	for _, m := range samples() {
		if len(m.Rel) == 0 {
			continue
		}
		one := api.Model{Worlds: 1, Rel: slices.Repeat([][]uint64{{1}}, len(m.Rel))}
		a, b := spare(m), spare(one)
		f := static(r, 2, len(m.Rel), len(m.Val))
		c := append(slices.Clone(f), api.Node{Op: mark})[:len(f)]
		results := func() []api.Model {
			told, _ := observe.Reveal(a, 1, c)
			all, _ := observe.Reveal(a, 1<<len(m.Rel)-1, c)
			left, _, _ := observe.Product(a, b)
			right, _, _ := observe.Product(b, a)
			return []api.Model{told, all, left, right}
		}
		want, kept := results(), results()
		for i, result := range results() {
			if model.Check(result) != api.OK || !fillModel(result) {
				t.Errorf("the result %d of %v: %v", i, m, result)
			}
		}
		_, pairs, _ := observe.Product(a, b)
		_, others, _ := observe.Product(a, b)
		fill(pairs, [2]int{mark, mark})
		observe.Informed(a, 0, len(m.Rel)-1)
		if !slices.EqualFunc(kept, want, model.Same) || others[0] != [2]int{} {
			t.Errorf("results of %v have changed: %v, %v", m, kept, others)
		}
		if !isKept(a, m) || !isKept(b, one) || !slices.Equal(c, f) || c[:len(f)+1][len(f)].Op != mark {
			t.Errorf("an argument has changed: %v, %v, %v", a, b, c)
		}
	}
}

// spareLists returns a copy of what agents observe whose lists have spare capacity with marks.
func spareLists(seen [][][]api.Node) [][][]api.Node {
	marked := []api.Node{{Op: mark}}
	c := [][][]api.Node{}
	for _, formulas := range seen {
		l := [][]api.Node{}
		for _, f := range formulas {
			l = append(l, append(slices.Clone(f), marked...)[:len(f)])
		}
		c = append(c, append(l, marked)[:len(l)])
	}
	return append(c, [][]api.Node{marked})[:len(c)]
}

// areKept reports whether lists that spareLists returned are still seen, with their marks.
func areKept(c, seen [][][]api.Node) bool {
	kept := len(c[:len(c)+1][len(c)]) == 1
	for a, formulas := range c {
		kept = kept && sameFormulas(formulas, seen[a]) && len(formulas[:len(formulas)+1][len(formulas)]) == 1
		for _, f := range formulas {
			kept = kept && f[:len(f)+1][len(f)] == api.Node{Op: mark}
		}
	}
	return kept
}

// TestLists is P22.7 for Count, Build and Pool: formulas as arguments stay as they are, with their spare capacity, and results share nothing with them or with other results.
func TestLists(t *testing.T) {
	r := rand.New(rand.NewPCG(22, 14))
	for range 100 {
		n := 1 + r.IntN(6)
		seen := randomSeen(r, n, 1+r.IntN(4), 3)
		law := formula.Imp(fact(0), propositional(r, 2, n))
		c, l := spareLists(seen), append(slices.Clone(law), api.Node{Op: mark})[:len(law)]
		group := 1<<len(seen) - 1
		want, valuations, e := observe.Build(n, law, seen)
		if e != api.OK {
			t.Fatal(e)
		}
		m, list, _ := observe.Build(n, l, c)
		other, otherList, _ := observe.Build(n, l, c)
		if !fillModel(other) {
			t.Errorf("lists of Build(%d, %v, %v) share memory", n, law, seen)
		}
		fill(otherList, mark)
		pool, _ := observe.Pool(c, group)
		otherPool, _ := observe.Pool(c, group)
		for _, f := range otherPool {
			fill(f, api.Node{Op: 99})
		}
		fill(otherPool, nil)
		observe.Count(n, l)
		wantPool, _ := observe.Pool(seen, group)
		if !model.Same(m, want) || !slices.Equal(list, valuations) || !sameFormulas(pool, wantPool) || !sameFormulas(pool, slices.Concat(seen...)) {
			t.Errorf("results for %v and %v have changed: %v, %v, %v", law, seen, m, list, pool)
		}
		if !areKept(c, seen) || !slices.Equal(l, law) || l[:len(law)+1][len(law)].Op != mark {
			t.Errorf("an argument has changed: %v, %v", c, l)
		}
	}
	// A formula that comes twice is two lists in the result.
	f := fact(1)
	pool, _ := observe.Pool([][][]api.Node{{f, f}}, 1)
	pool[0][0].I = 7
	if pool[1][0].I != 1 || f[0].I != 1 {
		t.Error("formulas of Pool share memory:", pool, f)
	}
}
