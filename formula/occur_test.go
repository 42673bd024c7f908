package formula

import (
	"math"
	"testing"

	"witting/api"
)

// TestDepth is P5.3: which operators count, and that the deepest operand counts.
func TestDepth(t *testing.T) {
	p, k := Fact(0), Know(0, Fact(0))
	for i, c := range []struct {
		f     []api.Node
		depth int
	}{
		{True(), 0}, {False(), 0}, {p, 0}, {Not(p), 0}, {And(p, p), 0}, {Or(p, p), 0}, {Imp(p, p), 0}, {Iff(p, p), 0},
		{k, 1}, {Poss(0, p), 1}, {Every(1, p), 1}, {Dist(1, p), 1}, {Common(1, p, p), 1}, {Belief(0, p, p), 1}, {Safe(0, p), 1},
		{Announce(p, p), 0}, {Act(0, 0, p), 0},
		{Next(p), 1}, {Until(p, p), 1}, {Prev(p), 1}, {Since(p, p), 1},
		{And(k, p), 1}, {And(p, k), 1}, {Iff(k, Know(1, k)), 2}, {Announce(k, p), 1}, {Announce(p, k), 1}, {Act(1, 1, k), 1},
		{Common(1, k, p), 2}, {Common(1, p, k), 2}, {Belief(0, k, p), 2}, {Since(p, Until(k, p)), 3}, {Until(Not(Since(p, k)), p), 3},
	} {
		if d := Depth(c.f); d != c.depth {
			t.Errorf("case %d: %d, not %d", i, d, c.depth)
		}
	}
	deep := p
	for i := range 199 {
		if deep = Know(i%4, deep); Depth(deep) != i+1 {
			t.Errorf("%d operators: %d", i+1, Depth(deep))
		}
	}
}

// TestFrags is P5.3: the bit of each operator.
func TestFrags(t *testing.T) {
	bits := map[int]int{
		api.OpKnow: 1, api.OpPoss: 1, api.OpEvery: 2, api.OpDist: 4, api.OpCommon: 8, api.OpBelief: 16, api.OpSafe: 32,
		api.OpAnnounce: 64, api.OpAct: 128, api.OpNext: 256, api.OpUntil: 256, api.OpPrev: 256, api.OpSince: 256,
	}
	for _, u := range uses() {
		if f := behind(good(u)); Frags(f) != bits[u.op] {
			t.Errorf("operator %d: %d", u.op, Frags(f))
		}
	}
	if f := Common(1, Poss(0, Know(1, Fact(0))), Next(Act(0, 0, True()))); Frags(f) != 1+8+128+256 {
		t.Error(Frags(f))
	}
}

// TestMasks is P5.3: the facts and the agents that occur, alone or in groups.
func TestMasks(t *testing.T) {
	p := Fact(0)
	for i, c := range []struct {
		f             []api.Node
		facts, agents int
	}{
		{True(), 0, 0}, {Fact(7), 128, 0}, {And(p, Fact(2)), 5, 0}, {Iff(p, p), 1, 0},
		{Know(3, p), 1, 8}, {Poss(2, p), 1, 4}, {Safe(1, p), 1, 2}, {Belief(2, Fact(1), p), 3, 4},
		{Every(9, p), 1, 9}, {Dist(15, p), 1, 15}, {Common(6, Fact(3), Fact(4)), 24, 6},
		{Act(7, 5, p), 1, 0}, {Announce(p, True()), 1, 0}, {Next(Since(Fact(5), Fact(6))), 96, 0},
		{And(Know(0, p), Every(4, Belief(3, True(), Fact(1)))), 3, 13},
	} {
		if Facts(c.f) != c.facts || Agents(c.f) != c.agents {
			t.Errorf("case %d: %d, %d", i, Facts(c.f), Agents(c.f))
		}
	}
}

// TestUnusedNodes is P5.3: what the whole formula does not use does not count.
func TestUnusedNodes(t *testing.T) {
	f := []api.Node{
		{Op: api.OpFact, I: 7}, {Op: api.OpKnow, I: 3, X: 0}, {Op: api.OpNext, X: 1}, {Op: api.OpEvery, G: 15, X: 2},
		{Op: api.OpFact, I: 1}, {Op: api.OpPoss, I: 1, X: 4},
	}
	if Depth(f) != 1 || Frags(f) != api.FragKnow || Facts(f) != 2 || Agents(f) != 2 || !Fits(f, 2, 2) {
		t.Error(Depth(f), Frags(f), Facts(f), Agents(f), Fits(f, 2, 2))
	}
}

// TestFits is P5.3: both limits, of any size.
func TestFits(t *testing.T) {
	f := And(Know(1, Fact(2)), Fact(0))
	for i, c := range []struct {
		f             []api.Node
		agents, facts int
		fits          bool
	}{
		{f, 2, 3, true}, {f, 1, 3, false}, {f, 2, 2, false}, {f, 4, 8, true}, {f, math.MaxInt, math.MaxInt, true},
		{f, -1, 3, false}, {f, 2, -1, false}, {f, math.MinInt, math.MaxInt, false}, {f, 0, 0, false}, {f, 1000, 64, true},
		{True(), 0, 0, true}, {True(), -1, math.MinInt, true}, {Fact(0), 0, 1, true}, {Fact(0), -5, 1, true}, {Fact(0), 0, 0, false},
		{Know(0, True()), 1, 0, true}, {Know(0, True()), 1, -3, true}, {Know(0, True()), 0, 0, false},
		{Every(9, True()), 3, 0, false}, {Every(9, True()), 4, 0, true}, {Fact(7), 0, 7, false}, {Fact(7), 0, 8, true},
		{Act(7, 7, True()), 0, 0, true},
	} {
		if Fits(c.f, c.agents, c.facts) != c.fits {
			t.Errorf("case %d: %t", i, !c.fits)
		}
	}
}

// TestNothingOccurs is P5.3 for what is no formula.
func TestNothingOccurs(t *testing.T) {
	for _, f := range noFormulas() {
		if Depth(f) != -1 || Frags(f) != 0 || Facts(f) != 0 || Agents(f) != 0 || Fits(f, 4, 8) || Fits(f, math.MaxInt, math.MaxInt) {
			t.Errorf("%v: %d, %d, %d, %d", f, Depth(f), Frags(f), Facts(f), Agents(f))
		}
	}
	// The operators before the one that is wrong do not count either.
	f := []api.Node{{Op: api.OpFact, I: 1}, {Op: api.OpKnow, I: 1, X: 0}, {Op: api.OpNot, X: 2}}
	if Depth(f) != -1 || Frags(f) != 0 || Facts(f) != 0 || Agents(f) != 0 || Fits(f, 4, 8) {
		t.Error(Depth(f), Frags(f), Facts(f), Agents(f))
	}
}
