package distinguish_test

import (
	"math"
	"math/rand/v2"
	"slices"
	"testing"

	"witting/api"
	"witting/checker"
	"witting/distinguish"
	"witting/formula"
	"witting/model"
)

// isPermitted reports whether a formula is a canonical list that fits a model, with no other operators than the chapter's.
func isPermitted(m api.Model, f []api.Node) bool {
	return formula.Check(f) == api.OK && slices.Equal(f, formula.Compact(f)) && formula.Fits(f, len(m.Rel), len(m.Val)) && formula.Frags(f)&^api.FragKnow == 0
}

// holds returns the worlds at which a formula is true.
func holds(t *testing.T, m api.Model, f []api.Node) uint64 {
	t.Helper()
	set, e := checker.Holds(m, f)
	if e != api.OK {
		t.Fatalf("Holds(%v, %v): %d", m, f, e)
	}
	return set
}

// TestExamples are the chapter's examples.
func TestExamples(t *testing.T) {
	m := example()
	for _, c := range []struct{ v, w, depth int }{{0, 2, 0}, {2, 0, 0}, {1, 2, 0}, {0, 1, 1}, {1, 0, 1}} {
		if n, e := distinguish.Depth(m, c.v, c.w); n != c.depth || e != api.OK {
			t.Errorf("Depth(%d, %d) is %d, %d", c.v, c.w, n, e)
		}
		f, e := distinguish.Formula(m, c.v, c.w)
		if set := holds(t, m, f); e != api.OK || formula.Depth(f) != c.depth || !has(set, c.v) || has(set, c.w) {
			t.Errorf("Formula(%d, %d) is %v, %d", c.v, c.w, f, e)
		}
	}
	// The formulas that the chapter names tell the worlds apart, too.
	fact := formula.Not(formula.Fact(0))
	if holds(t, m, fact) != 3 || holds(t, m, formula.Not(formula.Poss(0, formula.Fact(0)))) != 1 {
		t.Error("the chapter's formulas")
	}
	for n, want := range []uint64{3, 2, 2} {
		f, e := distinguish.Characteristic(m, 1, n)
		if e != api.OK || holds(t, m, f) != want || formula.Depth(f) > n {
			t.Errorf("Characteristic(1, %d) is %v, %d", n, f, e)
		}
	}
}

// checkPair checks Depth and Formula for two worlds, and returns the depth, or -1. Only models with more than 5 worlds may give ErrLimit.
func checkPair(t *testing.T, m api.Model, rounds [][]uint64, v, w int) int {
	t.Helper()
	want := depthOf(rounds, v, w)
	n, e := distinguish.Depth(m, v, w)
	f, e2 := distinguish.Formula(m, v, w)
	if want < 0 {
		if n != 0 || e != api.ErrNone || len(f) != 0 || e2 != api.ErrNone {
			t.Fatalf("%v: bisimilar worlds %d and %d: Depth %d, %d, Formula %v, %d", m, v, w, n, e, f, e2)
		}
		return want
	}
	if n != want || e != api.OK {
		t.Fatalf("Depth(%v, %d, %d) is %d, %d, not %d", m, v, w, n, e, want)
	}
	if e2 == api.ErrLimit && len(f) == 0 && m.Worlds > 5 {
		return want
	}
	if e2 != api.OK || !isPermitted(m, f) || formula.Depth(f) != want {
		t.Fatalf("Formula(%v, %d, %d) is %v, %d, and the depth %d", m, v, w, f, e2, want)
	}
	if set := holds(t, m, f); !has(set, v) || has(set, w) {
		t.Fatalf("Formula(%v, %d, %d) is %v, which is true at %b", m, v, w, f, set)
	}
	return want
}

// checkCharacteristic checks Characteristic for a world and a number of rounds, and returns its error.
func checkCharacteristic(t *testing.T, m api.Model, rounds [][]uint64, w, n int) int {
	t.Helper()
	f, e := distinguish.Characteristic(m, w, n)
	if e == api.ErrLimit && len(f) == 0 && m.Worlds > 5 {
		return e
	}
	if e != api.OK || !isPermitted(m, f) || formula.Depth(f) > n {
		t.Fatalf("Characteristic(%v, %d, %d) is %v, %d", m, w, n, f, e)
	}
	if set, want := holds(t, m, f), rounds[min(n, len(rounds)-1)][w]; set != want {
		t.Fatalf("Characteristic(%v, %d, %d) is %v, which is true at %b, not at %b", m, w, n, f, set, want)
	}
	return e
}

// TestAllSmall is P21.1 for all models of up to three worlds with a fact and an agent, all worlds and numbers of rounds.
func TestAllSmall(t *testing.T) {
	depths := map[int]int{}
	for _, m := range slices.Concat(small(1), small(2), small(3)) {
		rounds := together(m)
		for v := range m.Worlds {
			for w := range m.Worlds {
				depths[checkPair(t, m, rounds, v, w)]++
			}
			for _, n := range []int{0, 1, 2, 3, math.MaxInt} {
				checkCharacteristic(t, m, rounds, v, n)
			}
		}
	}
	for n := -1; n <= 2; n++ {
		if depths[n] < 50 {
			t.Error("pairs of worlds by their depth:", depths)
		}
	}
}

// TestSamples is P21.1 for models at the limits and random ones.
func TestSamples(t *testing.T) {
	r := rand.New(rand.NewPCG(21, 2))
	deep := 0
	for _, m := range samples() {
		rounds := together(m)
		for _, p := range pairs(r, m.Worlds) {
			if checkPair(t, m, rounds, p[0], p[1]) > 1 {
				deep++
			}
		}
		for _, w := range []int{0, m.Worlds - 1, r.IntN(m.Worlds)} {
			for _, n := range []int{0, 1, 2, 3, len(rounds) - 2, len(rounds) - 1, len(rounds), 64, math.MaxInt} {
				checkCharacteristic(t, m, rounds, w, max(n, 0))
			}
		}
	}
	if deep < 200 {
		t.Error("pairs of worlds with a depth above 1:", deep)
	}
}

// TestDeep is P21.1 where the number of rounds is the greatest one: in a chain, the world 0 is told apart by its length from the next one with the same agent.
func TestDeep(t *testing.T) {
	for _, c := range []struct {
		m          api.Model
		next, want int
	}{{chain(64, 1), 1, 63}, {chain(64, 2), 2, 62}, {chain(64, 4), 4, 60}, {circle(64, 1<<63), 1, 62}} {
		rounds := together(c.m)
		if n, e := distinguish.Depth(c.m, 0, c.next); n != c.want || e != api.OK {
			t.Errorf("Depth(%v, 0, %d) is %d, %d, not %d", c.m, c.next, n, e, c.want)
		}
		for _, p := range [][2]int{{0, c.next}, {c.next, 0}} {
			if f, e := distinguish.Formula(c.m, p[0], p[1]); e != api.OK || formula.Depth(f) != c.want {
				t.Errorf("Formula(%v, %v) is %v, %d", c.m, p, f, e)
			}
			checkPair(t, c.m, rounds, p[0], p[1])
		}
		if e := checkCharacteristic(t, c.m, rounds, 0, c.want); e != api.OK {
			t.Errorf("Characteristic(%v, 0, %d): %d", c.m, c.want, e)
		}
	}
}

// TestFive is P21.1: the limit of nodes is no restriction for 5 worlds, however many facts and agents there are.
func TestFive(t *testing.T) {
	r := rand.New(rand.NewPCG(21, 3))
	longest := 0
	for i := range 3000 {
		m := random(r, 4+r.IntN(2), i%3, 1+r.IntN(4))
		for len(m.Val) < 8 && i%2 == 0 {
			m.Val = append(m.Val, r.Uint64()&r.Uint64()&worldsBelow(m.Worlds))
		}
		rounds := together(m)
		for v := range m.Worlds {
			for w := range m.Worlds {
				checkPair(t, m, rounds, v, w)
			}
			if e := checkCharacteristic(t, m, rounds, v, len(rounds)); e != api.OK {
				t.Fatalf("Characteristic(%v, %d, %d): %d", m, v, len(rounds), e)
			}
			f, _ := distinguish.Characteristic(m, v, len(rounds))
			longest = max(longest, len(f))
		}
	}
	if longest < 12 {
		t.Error("the longest formula has", longest, "nodes")
	}
}

// TestLimit is ErrLimit: the formulas that are found for the worlds far up a long ladder have too many nodes, those for short ladders do not.
func TestLimit(t *testing.T) {
	for _, c := range []struct{ worlds, want int }{{12, api.OK}, {40, api.OK}, {64, api.ErrLimit}} {
		m := ladder(c.worlds)
		rounds := together(m)
		v, w := c.worlds-3, c.worlds-4
		if n, e := distinguish.Depth(m, v, w); n != len(rounds)-1 || e != api.OK {
			t.Errorf("Depth(%v, %d, %d) is %d, %d", m, v, w, n, e)
		}
		for _, p := range [][2]int{{v, w}, {w, v}} {
			checkPair(t, m, rounds, p[0], p[1])
			if f, e := distinguish.Formula(m, p[0], p[1]); e != c.want || (len(f) == 0) != (c.want != api.OK) {
				t.Errorf("Formula(%v, %v) is %v, %d, not %d", m, p, f, e, c.want)
			}
		}
		for _, n := range []int{len(rounds) - 1, math.MaxInt} {
			if e := checkCharacteristic(t, m, rounds, w, n); e != c.want {
				t.Errorf("Characteristic(%v, %d, %d): %d, not %d", m, w, n, e, c.want)
			}
		}
		if e := checkCharacteristic(t, m, rounds, w, 5); e != api.OK {
			t.Errorf("Characteristic(%v, %d, 5): %d", m, w, e)
		}
	}
}

// TestSharing is the choice of formulas: those that are found for a wide model share their parts, however the worlds are numbered, so that none of them is too long.
func TestSharing(t *testing.T) {
	r := rand.New(rand.NewPCG(21, 8))
	for range 3 {
		m, _ := model.Rename(wide(64), r.Perm(64))
		rounds := together(m)
		for w := range m.Worlds {
			for _, v := range []int{r.IntN(64), (w + 1) % 64} {
				if f, e := distinguish.Formula(m, v, w); e == api.ErrLimit {
					t.Errorf("Formula(%v, %d, %d) is %v, %d", m, v, w, f, e)
				}
			}
			if e := checkCharacteristic(t, m, rounds, w, 64); e != api.OK {
				t.Errorf("Characteristic(%v, %d, 64): %d", m, w, e)
			}
		}
	}
}

// TestErrors are the errors in their order: the model's, a world or a number of rounds out of range, bisimilar worlds.
func TestErrors(t *testing.T) {
	wants := func(m api.Model, v, w, want int) {
		t.Helper()
		if n, e := distinguish.Depth(m, v, w); n != 0 || e != want {
			t.Errorf("Depth(%v, %d, %d) is %d, %d, not %d", m, v, w, n, e, want)
		}
		if f, e := distinguish.Formula(m, v, w); len(f) != 0 || e != want {
			t.Errorf("Formula(%v, %d, %d) is %v, %d, not %d", m, v, w, f, e, want)
		}
	}
	wantsNone := func(m api.Model, w, n, want int) {
		t.Helper()
		if f, e := distinguish.Characteristic(m, w, n); len(f) != 0 || e != want {
			t.Errorf("Characteristic(%v, %d, %d) is %v, %d, not %d", m, w, n, f, e, want)
		}
	}
	for _, m := range []api.Model{example(), {Worlds: 1}, chain(64, 4), {Worlds: 64}} {
		for _, w := range outside(m.Worlds) {
			wants(m, w, 0, api.ErrRange)
			wants(m, 0, w, api.ErrRange)
			wants(m, w, w, api.ErrRange)
			wantsNone(m, w, 0, api.ErrRange)
			wantsNone(m, w, -1, api.ErrRange)
		}
		wantsNone(m, 0, -1, api.ErrRange)
		wantsNone(m, m.Worlds-1, math.MinInt, api.ErrRange)
		wants(m, 0, 0, api.ErrNone)
		wants(m, m.Worlds-1, m.Worlds-1, api.ErrNone)
	}
	wants(api.Model{Worlds: 64}, 0, 63, api.ErrNone)
	wants(circle(64, 1|1<<32), 5, 37, api.ErrNone)
	each(func(m api.Model, want int) {
		for _, w := range append(outside(1), 0) {
			wants(m, w, 0, want)
			wants(m, 0, w, want)
			wantsNone(m, w, 1, want)
			wantsNone(m, 0, w, want)
		}
	})
}
