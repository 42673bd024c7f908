package resolution_test

import (
	"math/rand/v2"
	"slices"
	"testing"

	"witting/api"
	"witting/resolution"
)

// TestPropagate is P10.3: units, which clause is the conflict, and what ends the propagation.
func TestPropagate(t *testing.T) {
	for i, c := range []struct {
		n        int
		l        [][]int
		fixed    []int
		want     []int
		conflict int
	}{
		{0, nil, nil, nil, -1}, {0, [][]int{{}}, nil, nil, 0}, {3, nil, []int{-1, 3}, []int{-1, 3}, -1}, {3, [][]int{{2}, {}}, nil, nil, 1},
		{12, [][]int{{12}}, nil, []int{12}, -1}, {12, [][]int{{-12}}, []int{1}, []int{1, -12}, -1}, {1, [][]int{{1}}, []int{1}, []int{1}, -1},
		{1, [][]int{{-1}}, []int{1}, []int{1}, 0}, {1, [][]int{{1}, {-1}}, nil, []int{1}, 1}, {1, [][]int{{-1}, {1}}, nil, []int{-1}, 1},
		// The first of several units, and the first of several conflicts.
		{2, [][]int{{1, 2}, {1, -2}}, []int{-1}, []int{-1, 2}, 1}, {2, [][]int{{1, -2}, {1, 2}}, []int{-1}, []int{-1, -2}, 1},
		{3, [][]int{{3}, {2}, {-2, -3}, {-3}, {-2}}, nil, []int{3}, 3}, {3, [][]int{{-1}, {-1, -2}, {-2}}, []int{1, 2}, []int{1, 2}, 0},
		// A conflict comes before a unit of an earlier clause.
		{3, [][]int{{3}, {-1}}, []int{1}, []int{1}, 1},
		// A clause with a true literal has no unit; nor has one with two open literals.
		{3, [][]int{{1, 2}, {1, 2, 3}}, []int{1}, []int{1}, -1}, {3, [][]int{{1, 2, 3}}, []int{-1}, []int{-1}, -1}, {3, [][]int{{1, 2}}, []int{-3, 2}[:0], nil, -1},
		// A later literal makes an earlier clause a unit.
		{4, [][]int{{-3, 4}, {-2, 3}, {-1, 2}, {1}}, nil, []int{1, 2, 3, 4}, -1}, {4, [][]int{{3, 4}, {2, -3}, {1, -2}}, []int{-1}, []int{-1, -2, -3, 4}, -1},
	} {
		got, conflict, e := resolution.Propagate(c.n, c.l, c.fixed)
		if !slices.Equal(got, c.want) || conflict != c.conflict || e != api.OK {
			t.Errorf("case %d: %v, %d, %d, not %v, %d", i, got, conflict, e, c.want, c.conflict)
		}
	}
}

// TestPropagateErrors is P10.3: what is no clause over the variables.
func TestPropagateErrors(t *testing.T) {
	for _, n := range []int{0, 1, 3, 12} {
		for _, l := range badClauses(n) {
			for _, fixed := range l {
				if got, conflict, e := resolution.Propagate(n, [][]int{{}}, fixed); len(got) != 0 || conflict != 0 || e != api.ErrArg {
					t.Fatalf("%d variables, %.20v: %v, %d, %d", n, fixed, got, conflict, e)
				}
			}
		}
	}
}

// TestRandomPropagations is P10.3, and P10.8 for what is added: against the chapter's definition, and the valuations.
func TestRandomPropagations(t *testing.T) {
	r := rand.New(rand.NewPCG(10, 5))
	added, conflicts := 0, 0
	for _, p := range problems() {
		for i := range 5 {
			fixed := randomClause(r, p.n, i)
			want, wantConflict := propagated(p.l, fixed)
			got, conflict, e := resolution.Propagate(p.n, p.l, fixed)
			if !slices.Equal(got, want) || conflict != wantConflict || e != api.OK {
				t.Fatalf("%d variables, %v with %v: %v, %d, %d, not %v, %d", p.n, p.l, fixed, got, conflict, e, want, wantConflict)
			}
			added += len(got) - len(fixed)
			if conflict >= 0 {
				conflicts++
			}
			for _, v := range modelsOf(p.n, p.l) {
				isFalse := func(literal int) bool { return !isTrue(literal, v) }
				if !slices.ContainsFunc(fixed, isFalse) && (conflict >= 0 || slices.ContainsFunc(got, isFalse)) {
					t.Fatalf("%d variables, %v with %v: %v, %d, but %d is a solution", p.n, p.l, fixed, got, conflict, v)
				}
			}
		}
	}
	if added < 500 || conflicts < 500 {
		t.Error("literals that were added, and conflicts:", added, conflicts)
	}
}
