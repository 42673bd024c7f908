package symset_test

import (
	"math"
	"math/rand/v2"
	"slices"
	"testing"

	"witting/api"
	"witting/bdd"
	"witting/symset"
)

// TestSet is P12.1, and P12.2 for Members: all sets of states with few bits, some with more.
func TestSet(t *testing.T) {
	for k := range 5 {
		for s := range uint64(1) << (1 << k) {
			if k < 4 || s%7 == 0 {
				checkSet(t, k, s)
			}
		}
	}
	r := rand.New(rand.NewPCG(12, 1))
	for _, k := range []int{5, 6} {
		for _, s := range []uint64{0, 1, 1 << (1<<k - 1), states(k), states(k) - 1, states(k) >> 1} {
			checkSet(t, k, s)
		}
		for range 200 {
			checkSet(t, k, randomSet(r, k))
		}
	}
}

func checkSet(t *testing.T, k int, s uint64) {
	t.Helper()
	d, e := symset.Set(k, s)
	if e != api.OK || bdd.Check(d) != api.OK || d.Vars != 2*k {
		t.Fatalf("Set(%d, %x): %v, %d", k, s, d, e)
	}
	for v := range 1 << k {
		for _, next := range []int{0, v, v ^ 1, 1<<k - 1} {
			if bdd.Eval(d, assignment(v, next)) != has(s, v) {
				t.Fatalf("Set(%d, %x): %v, which is wrong at %d", k, s, d, v)
			}
		}
	}
	if got, e := symset.Members(d); got != s || e != api.OK {
		t.Fatalf("Members of Set(%d, %x): %x, %d", k, s, got, e)
	}
}

// TestRelation is P12.1, and P12.2 for Pairs: all relations between states with few bits, some with more.
func TestRelation(t *testing.T) {
	for k := range 3 {
		for i, words := range allRelations(k) {
			if k < 2 || i%13 == 0 {
				checkRelation(t, k, words)
			}
		}
	}
	r := rand.New(rand.NewPCG(12, 2))
	for k := 3; k <= 6; k++ {
		checkRelation(t, k, make([]uint64, 1<<k))
		checkRelation(t, k, slices.Repeat([]uint64{states(k)}, 1<<k))
		for range 1 << (12 - 2*k) {
			checkRelation(t, k, randomRelation(r, k))
		}
	}
}

func checkRelation(t *testing.T, k int, words []uint64) {
	t.Helper()
	d, e := symset.Relation(k, words)
	if e != api.OK || bdd.Check(d) != api.OK || d.Vars != 2*k {
		t.Fatalf("Relation(%d, %x): %v, %d", k, words, d, e)
	}
	for v, successors := range words {
		for next := range words {
			if bdd.Eval(d, assignment(v, next)) != has(successors, next) {
				t.Fatalf("Relation(%d, %x): %v, which is wrong at %d, %d", k, words, d, v, next)
			}
		}
	}
	if got, e := symset.Pairs(d); !slices.Equal(got, words) || e != api.OK {
		t.Fatalf("Pairs of Relation(%d, %x): %x, %d", k, words, got, e)
	}
}

// TestInverse is P12.5: diagrams that are sets, and relations, are restored from their states.
func TestInverse(t *testing.T) {
	for vars := 0; vars <= 12; vars += 2 {
		for i := range vars {
			d := must(bdd.Xor(must(bdd.Var(vars, i)), must(bdd.Var(vars, i/4*2))))
			words, e := symset.Pairs(d)
			if e != api.OK {
				t.Error("Pairs of", d, words, e)
			}
			of(symset.Relation(vars/2, words)).equals(t, d)
			if i%2 == 0 {
				s, e := symset.Members(d)
				if e != api.OK {
					t.Error("Members of", d, s, e)
				}
				of(symset.Set(vars/2, s)).equals(t, d)
			}
		}
	}
}

// TestStateErrors is P12.1: numbers of bits, words and states that there are not.
func TestStateErrors(t *testing.T) {
	for _, k := range []int{-1, 7, 8, 12, 13, 32, 64, math.MaxInt, math.MinInt} {
		for _, s := range []uint64{0, 1, 1 << 63, math.MaxUint64} {
			of(symset.Set(k, s)).fails(t, api.ErrRange, "Set", k, s)
			of(symset.Relation(k, []uint64{s})).fails(t, api.ErrRange, "Relation", k, s)
		}
		of(symset.Relation(k, make([]uint64, 128))).fails(t, api.ErrRange, "Relation", k)
	}
	for k := range 7 {
		for _, count := range []int{0, 1<<k - 1, 1<<k + 1, 2 << k, 1000} {
			if count != 1<<k {
				of(symset.Relation(k, slices.Repeat([]uint64{math.MaxUint64}, count))).fails(t, api.ErrForm, "Relation", k, count)
			}
		}
		if k == 6 {
			continue
		}
		for _, s := range []uint64{1 << (1 << k), 1 << 63, math.MaxUint64, math.MaxUint64 << (1 << k)} {
			of(symset.Set(k, s)).fails(t, api.ErrArg, "Set", k, s)
			for v := range 1 << k {
				words := make([]uint64, 1<<k)
				words[v] = s
				of(symset.Relation(k, words)).fails(t, api.ErrArg, "Relation", k, words)
			}
		}
	}
}

// TestReadErrors is P12.2: what is no set, and no relation, before what has too many variables.
func TestReadErrors(t *testing.T) {
	for want, l := range notSets() {
		for _, d := range l {
			if s, e := symset.Members(d); s != 0 || e != want {
				t.Errorf("Members of %v: %x, %d, not %d", d, s, e, want)
			}
		}
	}
	for want, l := range notRelations() {
		for _, d := range l {
			if words, e := symset.Pairs(d); len(words) != 0 || e != want {
				t.Errorf("Pairs of %v: %x, %d, not %d", d, words, e, want)
			}
		}
	}
	for vars := 14; vars <= 24; vars += 2 {
		for _, d := range []api.Diagram{must(bdd.Const(vars, false)), must(bdd.Const(vars, true)), must(bdd.Var(vars, 0)), must(bdd.Var(vars, 12))} {
			if s, e := symset.Members(d); s != 0 || e != api.ErrRange {
				t.Errorf("Members of %v: %x, %d", d, s, e)
			}
			if words, e := symset.Pairs(d); len(words) != 0 || e != api.ErrRange {
				t.Errorf("Pairs of %v: %x, %d", d, words, e)
			}
		}
		if words, e := symset.Pairs(must(bdd.Var(vars, 1))); len(words) != 0 || e != api.ErrRange {
			t.Error("Pairs of the variable 1:", words, e)
		}
	}
}
