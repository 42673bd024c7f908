package observe_test

import (
	"math"
	"math/rand/v2"
	"slices"
	"testing"

	"witting/api"
	"witting/boolean"
	"witting/formula"
	"witting/model"
	"witting/observe"
)

// TestExamples are the chapter's examples.
func TestExamples(t *testing.T) {
	m, l, e := observe.Build(2, exampleLaw(), exampleSeen())
	if !model.Same(m, example()) || !slices.Equal(l, []int{1, 2, 3}) || e != api.OK {
		t.Error("Build:", m, l, e)
	}
	if n, e := observe.Count(2, exampleLaw()); n != 3 || e != api.OK {
		t.Error("Count:", n, e)
	}
	if yes, e := observe.Informed(m, 0, 1); yes || e != api.OK {
		t.Error("Informed:", yes, e)
	}
	told, e := observe.Reveal(m, 1, fact(1))
	if want := (api.Model{Worlds: 3, Val: []uint64{5, 6}, Rel: [][]uint64{{1, 2, 4}, {1, 6, 6}}}); !model.Same(told, want) || e != api.OK {
		t.Error("Reveal:", told, e)
	}
	if pool, e := observe.Pool(exampleSeen(), 3); !slices.EqualFunc(pool, [][]api.Node{fact(0), fact(1)}, slices.Equal[[]api.Node]) || e != api.OK {
		t.Error("Pool:", pool, e)
	}
	if m, l, e := observe.Build(2, formula.And(fact(0), formula.Not(fact(0))), exampleSeen()); !isZero(m) || len(l) != 0 || e != api.ErrFalse {
		t.Error("Build of a law that is never true:", m, l, e)
	}
	p, pairs, e := observe.Product(m, api.Model{Worlds: 1, Rel: [][]uint64{{1}, {1}}})
	if !model.Same(p, m) || !slices.Equal(pairs, [][2]int{{0, 0}, {1, 0}, {2, 0}}) || e != api.OK {
		t.Error("Product:", p, pairs, e)
	}
}

// satisfying returns the valuations of n facts at which a formula is true, in ascending order.
func satisfying(n int, f []api.Node) []int {
	l := []int{}
	for v := range 1 << n {
		if trueAt(f, v) {
			l = append(l, v)
		}
	}
	return l
}

// TestCount is P22.1.
func TestCount(t *testing.T) {
	r := rand.New(rand.NewPCG(22, 2))
	for n := range 7 {
		for i := range 200 {
			law := propositional(r, i%5, n)
			if count, e := observe.Count(n, law); count != len(satisfying(n, law)) || e != api.OK {
				t.Fatalf("Count(%d, %v) is %d, %d", n, law, count, e)
			}
		}
		if count, e := observe.Count(n, formula.True()); count != 1<<n || e != api.OK {
			t.Errorf("Count(%d, true) is %d, %d", n, count, e)
		}
		if count, e := observe.Count(n, formula.False()); count != 0 || e != api.OK {
			t.Errorf("Count(%d, false) is %d, %d", n, count, e)
		}
	}
	for want, forms := range wrongForms() {
		for _, f := range forms {
			if count, e := observe.Count(2, f); count != 0 || e != want {
				t.Errorf("Count(2, %v) is %d, %d, not %d", f, count, e, want)
			}
		}
	}
	for _, n := range []int{-1, 7, 8, 64, math.MinInt, math.MaxInt} {
		if count, e := observe.Count(n, formula.True()); count != 0 || e != api.ErrRange {
			t.Errorf("Count(%d, true) is %d, %d", n, count, e)
		}
		if count, e := observe.Count(n, nil); count != 0 || e != api.ErrForm {
			t.Errorf("Count(%d, nothing) is %d, %d", n, count, e)
		}
	}
}

// built is the model of P22.2, world by world.
func built(n int, valuations []int, seen [][][]api.Node) api.Model {
	m := api.Model{Worlds: len(valuations), Val: make([]uint64, n)}
	for i := range m.Val {
		for w, v := range valuations {
			if trueAt(fact(i), v) {
				m.Val[i] |= 1 << w
			}
		}
	}
	for _, formulas := range seen {
		successors := make([]uint64, len(valuations))
		for w, v := range valuations {
			for x, u := range valuations {
				differs := func(f []api.Node) bool { return trueAt(f, v) != trueAt(f, u) }
				if !slices.ContainsFunc(formulas, differs) {
					successors[w] |= 1 << x
				}
			}
		}
		m.Rel = append(m.Rel, successors)
	}
	return m
}

// randomSeen returns what so many agents observe, each one up to so many formulas of n facts.
func randomSeen(r *rand.Rand, n, agents, most int) [][][]api.Node {
	seen := make([][][]api.Node, agents)
	for a := range seen {
		for range r.IntN(most + 1) {
			seen[a] = append(seen[a], propositional(r, r.IntN(4), n))
		}
	}
	return seen
}

// TestBuild is P22.2.
func TestBuild(t *testing.T) {
	r := rand.New(rand.NewPCG(22, 3))
	sizes := map[int]int{}
	for i := range 3000 {
		n := i % 7
		law, seen := propositional(r, r.IntN(4), n), randomSeen(r, n, r.IntN(5), []int{2, 3, 16}[i%3])
		if i%5 == 0 {
			law = formula.True()
		}
		m, l, e := observe.Build(n, law, seen)
		want := satisfying(n, law)
		if len(want) == 0 {
			if !isZero(m) || len(l) != 0 || e != api.ErrFalse {
				t.Fatalf("Build(%d, %v, %v) is %v, %v, %d", n, law, seen, m, l, e)
			}
			continue
		}
		sizes[len(want)]++
		if !slices.Equal(l, want) || !model.Same(m, built(n, want, seen)) || e != api.OK {
			t.Fatalf("Build(%d, %v, %v) is %v, %v, %d", n, law, seen, m, l, e)
		}
	}
	if sizes[1] < 20 || sizes[32] < 20 || sizes[64] < 20 {
		t.Error("models by their sizes:", sizes)
	}
}

// TestBuildLimits is P22.2 at its limits: four agents, sixteen formulas, no facts, no agents.
func TestBuildLimits(t *testing.T) {
	digits := [][]api.Node{}
	for i := range 16 {
		digits = append(digits, fact(i%6))
	}
	seen := [][][]api.Node{digits, nil, {formula.True()}, digits[:5]}
	m, l, e := observe.Build(6, formula.True(), seen)
	if len(l) != 64 || e != api.OK || !model.Same(m, built(6, l, seen)) || m.Rel[0][63] != 1<<63 || m.Rel[1][63] != full || m.Rel[2][0] != full || m.Rel[3][40] != 1<<40|1<<8 {
		t.Error("the greatest model:", m, l, e)
	}
	// The sixteenth formula counts, too.
	last := append(slices.Repeat([][]api.Node{formula.True()}, 15), fact(0))
	if m, _, e := observe.Build(1, formula.True(), [][][]api.Node{last}); e != api.OK || !slices.Equal(m.Rel[0], []uint64{1, 2}) {
		t.Error("the last of sixteen formulas:", m, e)
	}
	if m, l, e := observe.Build(0, formula.True(), nil); m.Worlds != 1 || len(m.Val) != 0 || len(m.Rel) != 0 || !slices.Equal(l, []int{0}) || e != api.OK {
		t.Error("the least model:", m, l, e)
	}
	if m, l, e := observe.Build(0, formula.Not(formula.False()), [][][]api.Node{{formula.False()}, nil}); !model.Same(m, api.Model{Worlds: 1, Rel: [][]uint64{{1}, {1}}}) || len(l) != 1 || e != api.OK {
		t.Error("no facts:", m, l, e)
	}
	if m, l, e := observe.Build(2, fact(1), nil); !model.Same(m, api.Model{Worlds: 2, Val: []uint64{2, 3}}) || !slices.Equal(l, []int{2, 3}) || e != api.OK {
		t.Error("no agents:", m, l, e)
	}
}

// TestBuildErrors is P22.2: the errors in their order.
func TestBuildErrors(t *testing.T) {
	wants := func(n int, law []api.Node, seen [][][]api.Node, want int) {
		t.Helper()
		if m, l, e := observe.Build(n, law, seen); !isZero(m) || len(l) != 0 || e != want {
			t.Errorf("Build(%d, %v, %v) is %v, %v, %d, not %d", n, law, seen, m, l, e, want)
		}
	}
	never, always := formula.False(), formula.True()
	seventeen := slices.Repeat([][]api.Node{fact(0)}, 17)
	for _, seen := range [][][][]api.Node{make([][][]api.Node, 5), {seventeen}, {nil, nil, nil, seventeen}, {{nil}, seventeen}, slices.Repeat([][][]api.Node{{nil}}, 5)} {
		for _, law := range [][]api.Node{always, never, nil, fact(7), formula.Know(0, fact(0))} {
			for _, n := range []int{2, 0, -1, 7} {
				wants(n, law, seen, api.ErrLimit)
			}
		}
	}
	for want, forms := range wrongForms() {
		for _, f := range forms {
			wants(2, f, nil, want)
			wants(2, f, [][][]api.Node{{nil}}, want)
			wants(2, f, exampleSeen(), want)
			for _, law := range [][]api.Node{always, never} {
				wants(2, law, [][][]api.Node{{f}}, want)
				wants(2, law, [][][]api.Node{nil, {fact(1), f}, {nil}, {formula.Know(0, always), fact(2)}}, want)
				wants(2, law, [][][]api.Node{{f, {}}, {fact(2)}}, want)
			}
		}
	}
	for _, n := range []int{-1, 7, 64, math.MinInt, math.MaxInt} {
		wants(n, always, nil, api.ErrRange)
		wants(n, never, [][][]api.Node{{nil}}, api.ErrRange)
		wants(n, nil, nil, api.ErrForm)
	}
	wants(1, exampleLaw(), nil, api.ErrRange)
	wants(2, never, nil, api.ErrFalse)
	wants(6, formula.And(fact(5), formula.Not(fact(5))), slices.Repeat([][][]api.Node{seventeen[:16]}, 4), api.ErrFalse)
}

// TestBuildUnused is P22.2: nodes that a formula does not use do not count, as in boolean.Table.
func TestBuildUnused(t *testing.T) {
	law := slices.Concat(formula.Know(3, fact(7)), exampleLaw())
	for i := 2; i < len(law); i++ {
		if law[i].Op == api.OpOr {
			law[i].X += 2
			law[i].Y += 2
		}
	}
	if _, e := boolean.Table(law, 2); e != api.OK {
		t.Fatal(law, e)
	}
	m, _, e := observe.Build(2, law, [][][]api.Node{{law}, {slices.Concat(fact(7), fact(1))}})
	if want := (api.Model{Worlds: 3, Val: []uint64{5, 6}, Rel: [][]uint64{{7, 7, 7}, {1, 6, 6}}}); !model.Same(m, want) || e != api.OK {
		t.Error("Build:", m, e)
	}
}
