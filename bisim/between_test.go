package bisim_test

import (
	"math"
	"math/rand/v2"
	"slices"
	"testing"

	"witting/api"
	"witting/bisim"
)

// wantCheck is what Check returns for a relation between two valid models that has the right form.
func wantCheck(a, b api.Model, z []uint64) int {
	if isBisimulation(a, b, z) {
		return api.OK
	}
	return api.ErrProof
}

// TestCheckSmall is P19.1 for Check and Between: all relations between all models of up to two worlds with a fact and an agent, and between some of three.
func TestCheckSmall(t *testing.T) {
	all := slices.Concat(small(1), small(2))
	for _, a := range all {
		for _, b := range all {
			checkRelations(t, a, b)
		}
	}
	r := rand.New(rand.NewPCG(19, 5))
	three := small(3)
	for range 100 {
		checkRelations(t, three[r.IntN(len(three))], three[r.IntN(len(three))])
		checkRelations(t, three[r.IntN(len(three))], all[r.IntN(len(all))])
		checkRelations(t, all[r.IntN(len(all))], three[r.IntN(len(three))])
	}
}

// checkRelations compares Check for all relations with the definition, and Between with the union of all bisimulations.
func checkRelations(t *testing.T, a, b api.Model) {
	t.Helper()
	union := make([]uint64, a.Worlds)
	for _, z := range relations(a.Worlds, b.Worlds) {
		want := wantCheck(a, b, z)
		if e := bisim.Check(a, b, z); e != want {
			t.Fatalf("Check(%v, %v, %v) is %d", a, b, z, e)
		}
		if want == api.OK {
			for v := range union {
				union[v] |= z[v]
			}
		}
	}
	if z, e := bisim.Between(a, b); !slices.Equal(z, union) || e != api.OK {
		t.Fatalf("Between(%v, %v) is %v, %d, not %v", a, b, z, e, union)
	}
}

// TestBetween is P19.1 for Between and Bisimilar: random models with several agents and facts, often with bisimilar worlds.
func TestBetween(t *testing.T) {
	r := rand.New(rand.NewPCG(19, 6))
	related, empty := 0, 0
	for range 300 {
		facts, agents := r.IntN(3), r.IntN(5)
		m := random(r, 1+r.IntN(4), facts, agents)
		a, _ := inflated(r, m, 1+r.IntN(9))
		b, _ := inflated(r, m, 1+r.IntN(9))
		if r.IntN(2) == 0 {
			b = random(r, 1+r.IntN(9), facts, agents)
		}
		want := greatest(a, b)
		z, e := bisim.Between(a, b)
		if !slices.Equal(z, want) || e != api.OK {
			t.Fatalf("Between(%v, %v) is %v, %d, not %v", a, b, z, e, want)
		}
		if e := bisim.Check(a, b, z); e != api.OK {
			t.Fatalf("Check(%v, %v, %v) is %d", a, b, z, e)
		}
		pairs := 0
		for v := range a.Worlds {
			for w := range b.Worlds {
				if same, e := bisim.Bisimilar(a, v, b, w); same != has(want[v], w) || e != api.OK {
					t.Fatalf("Bisimilar(%v, %d, %v, %d) is %t, %d", a, v, b, w, same, e)
				}
				if has(want[v], w) {
					pairs++
				}
			}
		}
		if pairs == 0 {
			empty++
		}
		if pairs > 0 && pairs < a.Worlds*b.Worlds {
			related++
		}
	}
	if related < 50 || empty < 20 {
		t.Error("models with some related worlds, and with none:", related, empty)
	}
}

// TestLargeModels is P19.1 for Between, Check and Bisimilar: two models that have more than 64 worlds together.
func TestLargeModels(t *testing.T) {
	r := rand.New(rand.NewPCG(19, 7))
	for range 40 {
		m := random(r, 1+r.IntN(10), 1+r.IntN(2), 1+r.IntN(4))
		a, inA := inflated(r, m, 64)
		b, inB := inflated(r, m, 60+r.IntN(5))
		same := greatest(m, m)
		want := make([]uint64, a.Worlds)
		for v := range want {
			want[v] = copies(inB, same[inA[v]])
		}
		z, e := bisim.Between(a, b)
		if !slices.Equal(z, want) || e != api.OK {
			t.Fatalf("Between(%v, %v) is %v, %d, not %v", a, b, z, e, want)
		}
		if e := bisim.Check(a, b, want); e != api.OK {
			t.Fatalf("Check(%v, %v, %v) is %d", a, b, want, e)
		}
		for range 20 {
			v, w := r.IntN(a.Worlds), r.IntN(b.Worlds)
			if same, e := bisim.Bisimilar(a, v, b, w); same != has(want[v], w) || e != api.OK {
				t.Fatalf("Bisimilar(%v, %d, %v, %d) is %t, %d", a, v, b, w, same, e)
			}
		}
	}
	// Chains differ only at their ends, so that it takes as many steps to tell their beginnings apart.
	a, b := chain(64, 1), chain(63, 1)
	want := append([]uint64{0}, make([]uint64, 63)...)
	for v := range 63 {
		want[v+1] = 1 << v
	}
	if z, e := bisim.Between(a, b); !slices.Equal(z, want) || e != api.OK {
		t.Errorf("Between of two chains is %v, %d", z, e)
	}
	if z, e := bisim.Between(circle(64, 0), circle(63, 0)); !slices.Equal(z, slices.Repeat([]uint64{full >> 1}, 64)) || e != api.OK {
		t.Errorf("Between of two circles is %v, %d", z, e)
	}
	if z, e := bisim.Between(circle(64, 1), circle(63, 1)); !slices.Equal(z, make([]uint64, 64)) || e != api.OK {
		t.Errorf("Between of two circles with a fact is %v, %d", z, e)
	}
}

// TestCheckChanges is P19.1 for Check: bisimulations of larger models with one pair more or less, and parts of them.
func TestCheckChanges(t *testing.T) {
	r := rand.New(rand.NewPCG(19, 8))
	count := map[int]int{}
	for range 400 {
		m := random(r, 1+r.IntN(4), r.IntN(2), 1+r.IntN(3))
		a, inA := inflated(r, m, 4+r.IntN(8))
		b, inB := inflated(r, m, 4+r.IntN(8))
		z := make([]uint64, a.Worlds)
		for v := range z {
			z[v] = copies(inB, 1<<inA[v])
		}
		if e := bisim.Check(a, b, z); e != wantCheck(a, b, z) {
			t.Fatalf("Check(%v, %v, %v) is %d", a, b, z, e)
		}
		for range 8 {
			changed := slices.Clone(z)
			changed[r.IntN(len(z))] ^= 1 << r.IntN(b.Worlds)
			want := wantCheck(a, b, changed)
			count[want]++
			if e := bisim.Check(a, b, changed); e != want {
				t.Fatalf("Check(%v, %v, %v) is %d", a, b, changed, e)
			}
		}
		if e := bisim.Check(a, b, make([]uint64, a.Worlds)); e != api.OK {
			t.Fatalf("the empty relation between %v and %v: %d", a, b, e)
		}
	}
	if count[api.OK] < 100 || count[api.ErrProof] < 100 {
		t.Error("results of changed relations:", count)
	}
}

// TestCheckByHand is P19.1 for Check: each condition alone.
func TestCheckByHand(t *testing.T) {
	end := api.Model{Worlds: 1, Val: []uint64{0}, Rel: [][]uint64{{0}, {0}}}
	step := api.Model{Worlds: 2, Val: []uint64{0}, Rel: [][]uint64{{2, 0}, {0, 0}}}
	other := api.Model{Worlds: 2, Val: []uint64{0}, Rel: [][]uint64{{0, 0}, {2, 0}}}
	marked := api.Model{Worlds: 2, Val: []uint64{2}, Rel: [][]uint64{{2, 0}, {0, 0}}}
	for i, c := range []struct {
		a, b api.Model
		z    []uint64
		want int
	}{
		{end, end, []uint64{1}, api.OK},
		{step, end, []uint64{1, 1}, api.ErrProof}, // the first model has a step more
		{end, step, []uint64{1}, api.ErrProof},    // the second model has a step more
		{step, end, []uint64{0, 1}, api.OK},
		{end, step, []uint64{2}, api.OK},
		{step, step, []uint64{1, 2}, api.OK},
		{step, step, []uint64{1, 0}, api.ErrProof}, // the successors are not related
		{step, step, []uint64{0, 2}, api.OK},
		{step, step, []uint64{3, 2}, api.ErrProof},
		{step, other, []uint64{1, 2}, api.ErrProof}, // a step of another agent
		{step, marked, []uint64{1, 2}, api.ErrProof},
		{step, marked, []uint64{1, 0}, api.ErrProof},
		{step, marked, []uint64{0, 2}, api.ErrProof}, // only the facts differ
		{step, marked, []uint64{0, 0}, api.OK},
		{marked, marked, []uint64{1, 2}, api.OK},
	} {
		if e := bisim.Check(c.a, c.b, c.z); e != c.want {
			t.Errorf("case %d: %d, not %d", i, e, c.want)
		}
	}
}

// TestBetweenErrors is P19.1 for Check, Between and Bisimilar: the errors in their order.
func TestBetweenErrors(t *testing.T) {
	a := example()
	lists := [][]uint64{nil, {}, {1, 2}, {1, 2, 4, 0}, {8, 8}, make([]uint64, 65)}
	for _, z := range lists {
		if e := bisim.Check(a, a, z); e != api.ErrForm {
			t.Errorf("Check(.., %v) is %d", z, e)
		}
	}
	for _, z := range [][]uint64{{8, 0, 0}, {1, 2, 12}, {0, 0, full}, {0, 1 << 63, 0}, {4, 8, 1}} {
		if e := bisim.Check(a, a, z); e != api.ErrRange {
			t.Errorf("Check(.., %v) is %d", z, e)
		}
		lists = append(lists, z)
	}
	lists = append(lists, []uint64{1, 2, 4}, []uint64{7, 7, 7}, []uint64{0, 0, 0})
	// wants checks that all functions return an error for two models.
	wants := func(a, b api.Model, want int) {
		t.Helper()
		for _, z := range lists {
			if e := bisim.Check(a, b, z); e != want {
				t.Errorf("Check(%v, %v, %v) is %d, not %d", a, b, z, e, want)
			}
		}
		if z, e := bisim.Between(a, b); len(z) != 0 || e != want {
			t.Errorf("Between(%v, %v) is %v, %d, not %d", a, b, z, e, want)
		}
		for _, w := range []int{0, 1, -1, 3, math.MaxInt} {
			if same, e := bisim.Bisimilar(a, w, b, -w); same || e != want {
				t.Errorf("Bisimilar(%v, %d, %v, %d) is %t, %d, not %d", a, w, b, -w, same, e, want)
			}
		}
	}
	for _, b := range []api.Model{
		{Worlds: 3, Val: []uint64{4}}, {Worlds: 3, Rel: [][]uint64{{2, 4, 4}}}, {Worlds: 3, Val: []uint64{4, 4}, Rel: [][]uint64{{2, 4, 4}}},
		{Worlds: 3, Val: []uint64{4}, Rel: [][]uint64{{2, 4, 4}, {2, 4, 4}}}, {Worlds: 1}, {Worlds: 64, Val: []uint64{0, 0}, Rel: [][]uint64{make([]uint64, 64)}},
	} {
		wants(a, b, api.ErrArg)
		wants(b, a, api.ErrArg)
	}
	each(func(m api.Model, want int) {
		wants(m, a, want)
		wants(a, m, want)
		wants(m, api.Model{Worlds: 1}, want)
		each(func(other api.Model, _ int) { wants(m, other, want) })
	})
}

// TestBisimilarErrors is P19.1 for Bisimilar: worlds that there are not.
func TestBisimilarErrors(t *testing.T) {
	a, b := example(), api.Model{Worlds: 64, Val: []uint64{0}, Rel: [][]uint64{make([]uint64, 64)}}
	for _, c := range [][2]int{
		{-1, 0}, {3, 0}, {64, 0}, {63, 0}, {math.MinInt, 0}, {math.MaxInt, 0}, {0, -1}, {0, 64}, {0, 65}, {0, math.MinInt}, {0, math.MaxInt}, {-1, -1}, {3, 64}, {1 << 32, 0}, {0, 1 << 32},
	} {
		if same, e := bisim.Bisimilar(a, c[0], b, c[1]); same || e != api.ErrRange {
			t.Errorf("Bisimilar(.., %d, .., %d) is %t, %d", c[0], c[1], same, e)
		}
		if same, e := bisim.Bisimilar(b, c[1], a, c[0]); same || e != api.ErrRange {
			t.Errorf("Bisimilar(.., %d, .., %d) is %t, %d", c[1], c[0], same, e)
		}
	}
	if same, e := bisim.Bisimilar(b, 63, b, 0); !same || e != api.OK {
		t.Errorf("Bisimilar of two worlds without successors is %t, %d", same, e)
	}
}
