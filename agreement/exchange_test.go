package agreement_test

import (
	"math/rand/v2"
	"slices"
	"testing"

	"witting/agreement"
	"witting/api"
)

// checkExchange is P24.3 for a valid prior and an event, and returns the number of rounds.
func checkExchange(t *testing.T, p api.Prior, event uint64) int {
	t.Helper()
	for agent := range p.Cells {
		if q, e := agreement.Announce(p, agent, event); !samePrior(q, divided(p, []int{agent}, event)) || e != api.OK {
			t.Fatalf("Announce(%v, %d, %b) is %v, %d", p, agent, event, q, e)
		}
	}
	want := []api.Prior{p}
	for {
		last := want[len(want)-1]
		next := divided(last, all(p), event)
		if q, e := agreement.Round(last, event); !samePrior(q, next) || e != api.OK {
			t.Fatalf("Round(%v, %b) is %v, %d", last, event, q, e)
		}
		if samePrior(last, next) {
			break
		}
		want = append(want, next)
	}
	if l, e := agreement.Exchange(p, event); !slices.EqualFunc(l, want, samePrior) || e != api.OK {
		t.Fatalf("Exchange(%v, %b) is %v, %d, not %v", p, event, l, e, want)
	}
	return len(want) - 1
}

// TestExchange is P24.3: all pairs of partitions of up to four worlds with all events, and priors of all sizes.
func TestExchange(t *testing.T) {
	r := rand.New(rand.NewPCG(24, 4))
	for n := 1; n <= 4; n++ {
		for _, p := range small(r, n) {
			for event := range uint64(1) << n {
				checkExchange(t, p, event)
			}
		}
	}
	rounds := map[int]int{}
	for _, p := range samples() {
		for _, event := range events(r, p) {
			rounds[checkExchange(t, p, event)]++
		}
	}
	if rounds[0] < 100 || rounds[1] < 100 || rounds[2] < 20 {
		t.Error("exchanges by their rounds:", rounds)
	}
}

// TestLongExchange is P24.3: overlapping cells, where each round tells only the neighbours something.
func TestLongExchange(t *testing.T) {
	for _, worlds := range []int{3, 4, 5, 16, 63, 64} {
		p := staircase(worlds)
		// Posteriors are 1/2 but for cells of one world, which are at the ends.
		event := uint64(0x5555555555555555) & worldsBelow(worlds)
		if n := checkExchange(t, p, event); worlds > 16 && n < worlds/2 {
			t.Errorf("%d worlds: %d rounds", worlds, n)
		}
	}
}

// TestRoundAtOnce is P24.3: all agents announce what they thought before the round.
func TestRoundAtOnce(t *testing.T) {
	p, event := example(), exampleEvent()
	one, _ := agreement.Announce(p, 1, event)
	after, _ := agreement.Announce(one, 0, event)
	if q, _ := agreement.Round(p, event); samePrior(q, after) || !samePrior(q, one) {
		t.Error("Round:", q, "one after the other:", after)
	}
	// The first agent tells whether the world is 0 or 1, the second one whether it is 0 or 2, and the third one, who knew nothing, hears both.
	p = api.Prior{Weight: equalWeights(4), Cells: [][]int{{0, 0, 2, 2}, {0, 1, 0, 1}, {0, 0, 0, 0}}}
	want := api.Prior{Weight: p.Weight, Cells: slices.Repeat([][]int{{0, 1, 2, 3}}, 3)}
	if q, e := agreement.Round(p, 8); !samePrior(q, want) || e != api.OK {
		t.Error("Round of three agents:", q, e)
	}
}
