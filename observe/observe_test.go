package observe_test

import (
	"math"
	"math/rand/v2"
	"slices"
	"testing"

	"witting/api"
	"witting/checker"
	"witting/formula"
	"witting/model"
	"witting/observe"
)

// noGroups returns masks that are no groups of so many agents.
func noGroups(agents int) []int {
	return []int{0, -1, 1 << agents, 1<<agents + 1, 16, 1 << 40, math.MinInt, math.MaxInt}
}

// sameFormulas reports whether two lists contain the same lists of nodes.
func sameFormulas(a, b [][]api.Node) bool {
	return slices.EqualFunc(a, b, slices.Equal[[]api.Node])
}

// TestPool is P22.3: the formulas come as they are, agent by agent, also those that come again and what is no formula.
func TestPool(t *testing.T) {
	repeated := append(fact(3), fact(3)...)
	seen := [][][]api.Node{{fact(1), fact(0), repeated}, nil, {fact(0), nil, {{Op: 99, I: -1}}}, {formula.Know(1, fact(2)), fact(1)}}
	for agents := range 5 {
		for group := 1; group < 1<<agents; group++ {
			want := [][]api.Node{}
			for a := range agents {
				if group>>a&1 == 1 {
					want = append(want, seen[a]...)
				}
			}
			if pool, e := observe.Pool(seen[:agents], group); !sameFormulas(pool, want) || e != api.OK {
				t.Errorf("Pool(%v, %d) is %v, %d", seen[:agents], group, pool, e)
			}
		}
		for _, group := range noGroups(agents) {
			if pool, e := observe.Pool(seen[:agents], group); len(pool) != 0 || e != api.ErrRange {
				t.Errorf("Pool(%v, %d) is %v, %d", seen[:agents], group, pool, e)
			}
		}
	}
	for _, agents := range []int{5, 6, 63, 64, 65, 1000} {
		for _, group := range append(noGroups(5), 1, 3, 31) {
			if pool, e := observe.Pool(make([][][]api.Node, agents), group); len(pool) != 0 || e != api.ErrRange {
				t.Errorf("Pool of %d agents for %d is %v, %d", agents, group, pool, e)
			}
		}
	}
	many := slices.Repeat([][]api.Node{fact(0)}, 17)
	if pool, e := observe.Pool([][][]api.Node{many, many}, 3); len(pool) != 34 || e != api.OK {
		t.Error("Pool of more formulas than an agent may observe:", pool, e)
	}
}

// revealed is the model of P22.4, pair by pair.
func revealed(m api.Model, group int, set uint64) api.Model {
	r := api.Model{Worlds: m.Worlds, Val: m.Val}
	for a, successors := range m.Rel {
		rows := slices.Clone(successors)
		for v := range rows {
			for w := range m.Worlds {
				if group>>a&1 == 1 && has(set, v) != has(set, w) {
					rows[v] &^= 1 << w
				}
			}
		}
		r.Rel = append(r.Rel, rows)
	}
	return r
}

// TestReveal is P22.4 for formulas of the static language.
func TestReveal(t *testing.T) {
	r := rand.New(rand.NewPCG(22, 4))
	changed := 0
	for _, m := range samples() {
		for group := 1; group < 1<<len(m.Rel); group++ {
			for height := range 4 {
				f := static(r, height, len(m.Rel), len(m.Val))
				set, e := checker.Holds(m, f)
				if e != api.OK {
					t.Fatalf("Holds(%v, %v): %d", m, f, e)
				}
				got, e := observe.Reveal(m, group, f)
				if !model.Same(got, revealed(m, group, set)) || e != api.OK {
					t.Fatalf("Reveal(%v, %d, %v) is %v, %d", m, group, f, got, e)
				}
				if !model.Same(got, m) {
					changed++
				}
			}
		}
	}
	if changed < 300 {
		t.Error("models that are changed:", changed)
	}
}

// TestRevealErrors is P22.4: the errors in their order.
func TestRevealErrors(t *testing.T) {
	wants := func(m api.Model, group int, f []api.Node, want int) {
		t.Helper()
		if got, e := observe.Reveal(m, group, f); !isZero(got) || e != want {
			t.Errorf("Reveal(%v, %d, %v) is %v, %d, not %d", m, group, f, got, e, want)
		}
	}
	for _, m := range samples() {
		for _, group := range noGroups(len(m.Rel)) {
			wants(m, group, formula.True(), api.ErrArg)
		}
	}
	m := example()
	wrong := map[int][][]api.Node{
		api.ErrForm:  {nil, {{Op: api.OpNot}}, {{Op: api.OpTrue, I: 1}}},
		api.ErrLimit: {make([]api.Node, 201)},
		api.ErrOp:    {{{}}, {{Op: 22}}, formula.Belief(0, fact(0), fact(7)), formula.Announce(fact(0), fact(1)), formula.Act(0, 0, fact(1)), formula.Next(fact(0)), formula.Safe(3, fact(0))},
		api.ErrRange: {{{Op: api.OpFact, I: 8}}, fact(2), formula.Know(2, fact(0)), formula.Dist(4, fact(0)), formula.Common(3, fact(0), fact(7))},
	}
	for want, forms := range wrong {
		for _, f := range forms {
			for _, group := range append(noGroups(2), 1, 3) {
				wants(m, group, f, want)
			}
		}
	}
	each(func(m api.Model, want int) {
		for _, group := range append(noGroups(2), 1) {
			wants(m, group, formula.True(), want)
			wants(m, group, nil, want)
			wants(m, group, formula.Next(fact(0)), want)
		}
	})
}

// TestInformed is P22.5.
func TestInformed(t *testing.T) {
	r := rand.New(rand.NewPCG(22, 5))
	count := map[bool]int{}
	models := samples()
	for range 300 {
		models = append(models, random(r, 1+r.IntN(3), 0, 4))
	}
	for _, m := range models {
		for a := range m.Rel {
			for b := range m.Rel {
				want := true
				for v := range m.Worlds {
					for w := range m.Worlds {
						want = want && (has(m.Rel[b][v], w) || !has(m.Rel[a][v], w))
					}
				}
				count[want]++
				if yes, e := observe.Informed(m, a, b); yes != want || e != api.OK {
					t.Errorf("Informed(%v, %d, %d) is %t, %d", m, a, b, yes, e)
				}
			}
		}
		for _, a := range []int{-1, len(m.Rel), 4, 64, math.MinInt, math.MaxInt} {
			for _, p := range [][2]int{{a, 0}, {0, a}, {a, a}, {len(m.Rel) - 1, a}} {
				if yes, e := observe.Informed(m, p[0], p[1]); yes || e != api.ErrArg {
					t.Errorf("Informed(%v, %v) is %t, %d", m, p, yes, e)
				}
			}
		}
	}
	if count[true] < 500 || count[false] < 500 {
		t.Error("pairs of agents:", count)
	}
	// A difference at the last world counts, too.
	late := api.Model{Worlds: 64, Rel: [][]uint64{make([]uint64, 64), make([]uint64, 64)}}
	late.Rel[0][63] = 1 << 63
	if yes, e := observe.Informed(late, 0, 1); yes || e != api.OK {
		t.Error("a successor of the last world:", yes, e)
	}
	each(func(m api.Model, want int) {
		for _, p := range [][2]int{{0, 0}, {-1, 0}, {0, 9}} {
			if yes, e := observe.Informed(m, p[0], p[1]); yes || e != want {
				t.Errorf("Informed(%v, %v) is %t, %d, not %d", m, p, yes, e, want)
			}
		}
	})
}
