package agreement_test

import (
	"math/rand/v2"
	"slices"
	"testing"

	"witting/agreement"
	"witting/api"
	"witting/model"
)

// TestExamples is the chapter's example.
func TestExamples(t *testing.T) {
	p, event := example(), exampleEvent()
	third, half, none, one := api.Fraction{Num: 1, Den: 3}, api.Fraction{Num: 1, Den: 2}, api.Fraction{Den: 1}, api.Fraction{Num: 1, Den: 1}
	for agent, want := range [][]api.Fraction{slices.Repeat([]api.Fraction{third}, 9), {half, half, half, half, none, none, none, none, one}} {
		if l, e := agreement.Posteriors(p, agent, event); !slices.Equal(l, want) || e != api.OK {
			t.Errorf("Posteriors of %d are %v, %d", agent, l, e)
		}
		if f, e := agreement.Posterior(p, agent, 0, event); f != want[0] || e != api.OK {
			t.Errorf("Posterior of %d is %v, %d", agent, f, e)
		}
	}
	if q, e := agreement.Announce(p, 0, event); !samePrior(q, p) || e != api.OK {
		t.Error("Announce of the first agent:", q, e)
	}
	first := api.Prior{Weight: p.Weight, Cells: [][]int{{0, 0, 0, 3, 4, 4, 6, 6, 8}, {0, 0, 0, 0, 4, 4, 4, 4, 8}}}
	second := api.Prior{Weight: p.Weight, Cells: [][]int{first.Cells[0], {0, 0, 0, 3, 4, 4, 4, 4, 8}}}
	if q, e := agreement.Announce(p, 1, event); !samePrior(q, first) || e != api.OK {
		t.Error("Announce of the second agent:", q, e)
	}
	if q, e := agreement.Round(p, event); !samePrior(q, first) || e != api.OK {
		t.Error("Round:", q, e)
	}
	l, e := agreement.Exchange(p, event)
	if !slices.EqualFunc(l, []api.Prior{p, first, second}, samePrior) || e != api.OK {
		t.Error("Exchange:", l, e)
	}
	for i, want := range []bool{false, false, true} {
		if yes, e := agreement.Agree(l[i], 0, event); yes != want || e != api.OK {
			t.Errorf("Agree after %d rounds: %t, %d", i, yes, e)
		}
	}
	for agent := range 2 {
		if f, e := agreement.Posterior(second, agent, 0, event); f != third || e != api.OK {
			t.Errorf("the last posterior of %d: %v, %d", agent, f, e)
		}
	}
	if s, e := agreement.Common(p, 0); s != 511 || e != api.OK {
		t.Error("Common:", s, e)
	}
}

// TestCheck is P24.1: valid priors, errors in their order.
func TestCheck(t *testing.T) {
	for _, p := range samples() {
		if e := agreement.Check(p); e != api.OK {
			t.Errorf("Check(%v) is %d", p, e)
		}
	}
	each(func(p api.Prior, want int) {
		if e := agreement.Check(p); e != want {
			t.Errorf("Check(%v) is %d, not %d", p, e, want)
		}
	})
}

// TestCheckCells is P24.1: all short lists of numbers as cells.
func TestCheckCells(t *testing.T) {
	valid := 0
	for code := range 5 * 5 * 5 {
		cells := []int{code%5 - 1, code/5%5 - 1, code/25 - 1}
		want := api.ErrForm
		if slices.ContainsFunc(partitions(3), func(p []int) bool { return slices.Equal(p, cells) }) {
			want = api.OK
			valid++
		}
		for _, l := range [][][]int{{cells}, {cells, {0, 1, 2}}, {{0, 1, 0}, cells}, {{0, 0, 0}, {0, 0, 0}, {0, 0, 0}, cells}} {
			if e := agreement.Check(api.Prior{Weight: []int{1, 1000, 1}, Cells: l}); e != want {
				t.Errorf("Check with the cells %v is %d, not %d", l, e, want)
			}
		}
	}
	if valid != 5 {
		t.Error("partitions:", valid)
	}
}

// checkPosteriors is P24.2 for a valid prior and an event.
func checkPosteriors(t *testing.T, p api.Prior, event uint64) {
	t.Helper()
	equal := slices.Repeat([]bool{true}, len(p.Weight))
	for agent := range p.Cells {
		l, e := agreement.Posteriors(p, agent, event)
		if len(l) != len(p.Weight) || e != api.OK {
			t.Fatalf("Posteriors(%v, %d, %b) are %v, %d", p, agent, event, l, e)
		}
		for w, f := range l {
			want := probability(p, agent, w, event)
			if !isFraction(f, want) {
				t.Fatalf("Posteriors(%v, %d, %b) are %v, and not %v at %d", p, agent, event, l, want, w)
			}
			if g, e := agreement.Posterior(p, agent, w, event); g != f || e != api.OK {
				t.Fatalf("Posterior(%v, %d, %d, %b) is %v, %d", p, agent, w, event, g, e)
			}
			equal[w] = equal[w] && want.Cmp(probability(p, 0, w, event)) == 0
		}
	}
	for w, want := range equal {
		if yes, e := agreement.Agree(p, w, event); yes != want || e != api.OK {
			t.Fatalf("Agree(%v, %d, %b) is %t, %d", p, w, event, yes, e)
		}
	}
}

// TestPosteriors is P24.2: all pairs of partitions of up to four worlds with all events, and priors of all sizes.
func TestPosteriors(t *testing.T) {
	r := rand.New(rand.NewPCG(24, 2))
	for n := 1; n <= 4; n++ {
		for _, p := range small(r, n) {
			for event := range uint64(1) << n {
				checkPosteriors(t, p, event)
			}
		}
	}
	for _, p := range samples() {
		for _, event := range events(r, p) {
			checkPosteriors(t, p, event)
		}
	}
}

// TestFractions is P24.2: fractions in lowest terms, by hand.
func TestFractions(t *testing.T) {
	for _, c := range []struct {
		weight   []int
		event    uint64
		num, den int
	}{
		{[]int{1000}, 0, 0, 1}, {[]int{1000}, 1, 1, 1}, {[]int{6, 4}, 1, 3, 5}, {[]int{6, 4}, 2, 2, 5}, {[]int{7, 5, 2}, 1, 1, 2}, {[]int{1, 1000}, 1, 1, 1001},
		{[]int{12, 18, 30}, 2, 3, 10}, {slices.Repeat([]int{1000}, 64), full >> 1, 63, 64},
		// 63000 and 63999 have the common divisor 9.
		{append(slices.Repeat([]int{1000}, 63), 999), full >> 1, 7000, 7111},
	} {
		p := api.Prior{Weight: c.weight, Cells: [][]int{make([]int, len(c.weight))}}
		want := api.Fraction{Num: c.num, Den: c.den}
		if f, e := agreement.Posterior(p, 0, 0, c.event); f != want || e != api.OK {
			t.Errorf("Posterior of %b with the weights %v is %v, %d", c.event, c.weight, f, e)
		}
	}
}

// TestCommon is P24.4: Common and Model against reachability and cells.
func TestCommon(t *testing.T) {
	r := rand.New(rand.NewPCG(24, 3))
	priors := samples()
	for n := 1; n <= 5; n++ {
		priors = append(priors, small(r, n)...)
	}
	for _, p := range priors {
		for w := range p.Weight {
			if s, e := agreement.Common(p, w); s != reachable(p, w) || e != api.OK {
				t.Fatalf("Common(%v, %d) is %b, %d", p, w, s, e)
			}
		}
		want := api.Model{Worlds: len(p.Weight)}
		for agent := range p.Cells {
			row := []uint64{}
			for w := range p.Weight {
				row = append(row, cellOf(p, agent, w))
			}
			want.Rel = append(want.Rel, row)
		}
		if m, e := agreement.Model(p); !model.Same(m, want) || model.Check(m) != api.OK || e != api.OK {
			t.Fatalf("Model(%v) is %v, %d", p, m, e)
		}
	}
	for w := range 64 {
		if s, _ := agreement.Common(api.Prior{Weight: equalWeights(64)}, w); s != 1<<w {
			t.Errorf("Common without agents at %d is %b", w, s)
		}
		if s, _ := agreement.Common(staircase(64), w); s != full {
			t.Errorf("Common of overlapping cells at %d is %b", w, s)
		}
	}
}

// expected holds the errors of the arguments of the functions beside the prior: each function has some of these arguments.
type expected struct{ agent, world, event int }

// of returns the error of a function: all errors of its arguments are equal, or OK.
func of(errors ...int) int {
	return slices.Max(errors)
}

// checkErrors checks the errors of all functions with further arguments, and the results beside them.
func checkErrors(t *testing.T, p api.Prior, agent, world int, event uint64, want expected) {
	t.Helper()
	wants := func(name string, e, want int, zero bool) {
		t.Helper()
		if e != want || e != api.OK && !zero {
			t.Errorf("%s of %v, %d, %d, %b: %d, not %d, and a zero value: %t", name, p, agent, world, event, e, want, zero)
		}
	}
	f, e := agreement.Posterior(p, agent, world, event)
	wants("Posterior", e, of(want.agent, want.world, want.event), f == api.Fraction{})
	l, e := agreement.Posteriors(p, agent, event)
	wants("Posteriors", e, of(want.agent, want.event), len(l) == 0)
	q, e := agreement.Announce(p, agent, event)
	wants("Announce", e, of(want.agent, want.event), isZero(q))
	q, e = agreement.Round(p, event)
	wants("Round", e, want.event, isZero(q))
	priors, e := agreement.Exchange(p, event)
	wants("Exchange", e, want.event, len(priors) == 0)
	s, e := agreement.Common(p, world)
	wants("Common", e, want.world, s == 0)
	yes, e := agreement.Agree(p, world, event)
	wants("Agree", e, of(want.world, want.event), !yes)
}

// TestErrors is P24.1: the error of Check comes first, whatever the other arguments are.
func TestErrors(t *testing.T) {
	each(func(p api.Prior, want int) {
		for _, agent := range []int{0, -1, 4} {
			for _, world := range []int{0, -1, 64} {
				for _, event := range []uint64{0, 1, full} {
					checkErrors(t, p, agent, world, event, expected{agent: want, world: want, event: want})
				}
			}
		}
		if m, e := agreement.Model(p); m.Worlds != 0 || len(m.Rel) != 0 || len(m.Val) != 0 || e != want {
			t.Errorf("Model(%v) is %v, %d, not %d", p, m, e, want)
		}
	})
}

// TestErrorRange is P24.1: agents, worlds and events that there are not.
func TestErrorRange(t *testing.T) {
	for _, p := range samples() {
		worlds, agents := len(p.Weight), len(p.Cells)
		event := worldsBelow(worlds)
		for _, agent := range outside(agents) {
			checkErrors(t, p, agent, 0, event, expected{agent: api.ErrRange})
			checkErrors(t, p, agent, worlds, event, expected{agent: api.ErrRange, world: api.ErrRange})
		}
		if agents == 0 {
			continue
		}
		checkErrors(t, p, agents-1, worlds-1, event, expected{})
		for _, world := range outside(worlds) {
			checkErrors(t, p, agents-1, world, event, expected{world: api.ErrRange})
		}
		if worlds == 64 {
			continue
		}
		for _, wrong := range beyond(worlds) {
			checkErrors(t, p, 0, worlds-1, wrong, expected{event: api.ErrRange})
			checkErrors(t, p, agents, worlds, wrong, expected{agent: api.ErrRange, world: api.ErrRange, event: api.ErrRange})
		}
	}
}

// TestNoAgents is P24.2 to P24.4: without agents nobody disagrees, nothing is told, and each world is alone.
func TestNoAgents(t *testing.T) {
	p := api.Prior{Weight: []int{3, 2, 1}}
	if yes, e := agreement.Agree(p, 2, 5); !yes || e != api.OK {
		t.Error("Agree:", yes, e)
	}
	if q, e := agreement.Round(p, 5); !samePrior(q, p) || e != api.OK {
		t.Error("Round:", q, e)
	}
	if l, e := agreement.Exchange(p, 5); !slices.EqualFunc(l, []api.Prior{p}, samePrior) || e != api.OK {
		t.Error("Exchange:", l, e)
	}
	if s, e := agreement.Common(p, 1); s != 2 || e != api.OK {
		t.Error("Common:", s, e)
	}
	if m, e := agreement.Model(p); !model.Same(m, api.Model{Worlds: 3}) || e != api.OK {
		t.Error("Model:", m, e)
	}
	checkErrors(t, p, 0, 0, 8, expected{agent: api.ErrRange, event: api.ErrRange})
	checkErrors(t, p, 0, 3, 7, expected{agent: api.ErrRange, world: api.ErrRange})
}
