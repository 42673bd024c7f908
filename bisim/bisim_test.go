package bisim_test

import (
	"math"
	"math/rand/v2"
	"slices"
	"testing"

	"witting/api"
	"witting/bisim"
	"witting/partition"
)

// TestExamples are the chapter's examples, and the one of layer 20 for distributed knowledge.
func TestExamples(t *testing.T) {
	m := example()
	for n, want := range [][]int{{0, 0, 2}, {0, 1, 2}, {0, 1, 2}} {
		if p, e := bisim.Rounds(m, n); !slices.Equal(p, want) || e != api.OK {
			t.Errorf("Rounds(.., %d) is %v, %d", n, p, e)
		}
	}
	if n, e := bisim.Depth(m); n != 1 || e != api.OK {
		t.Error("Depth:", n, e)
	}
	m.Rel = [][]uint64{{1, 1, 4}}
	if p, e := bisim.Coarsest(m); !slices.Equal(p, []int{0, 0, 2}) || e != api.OK {
		t.Error("Coarsest:", p, e)
	}
	if n, e := bisim.Depth(m); n != 0 || e != api.OK {
		t.Error("Depth with the other relation:", n, e)
	}
	if same, e := bisim.Bisimilar(m, 0, m, 1); !same || e != api.OK {
		t.Error("Bisimilar:", same, e)
	}
	// The world 0 leads to 1 and to 2, and the world 3 with both agents to 1; the agents of 0 have no successor in common.
	d := api.Model{Worlds: 4, Rel: [][]uint64{{2, 0, 0, 2}, {4, 0, 0, 2}}}
	if p, e := bisim.Coarsest(d); !slices.Equal(p, []int{0, 1, 1, 0}) || e != api.OK {
		t.Error("Coarsest of two agents:", p, e)
	}
	if p, e := bisim.WithGroups(d, []int{3}); !slices.Equal(p, []int{0, 1, 1, 3}) || e != api.OK {
		t.Error("WithGroups:", p, e)
	}
}

// checkRounds compares Rounds, Depth and Coarsest with the chapter's definition.
func checkRounds(t *testing.T, m api.Model) {
	t.Helper()
	all := together(m, m.Rel)
	last := len(all) - 1
	for _, n := range append([]int{m.Worlds - 1, m.Worlds, 64, 65, math.MaxInt}, []int{0, 1, 2, last - 1, last, last + 1}...) {
		if n < 0 {
			continue
		}
		want := partitionOf(all[min(n, last)])
		if p, e := bisim.Rounds(m, n); !slices.Equal(p, want) || e != api.OK {
			t.Fatalf("Rounds(%v, %d) is %v, %d, not %v", m, n, p, e, want)
		}
	}
	if n, e := bisim.Depth(m); n != last || e != api.OK || n > m.Worlds-1 {
		t.Fatalf("Depth(%v) is %d, %d, not %d", m, n, e, last)
	}
	want := partitionOf(all[last])
	if p, e := bisim.Coarsest(m); !slices.Equal(p, want) || e != api.OK || partition.Check(p) != api.OK {
		t.Fatalf("Coarsest(%v) is %v, %d, not %v", m, p, e, want)
	}
}

// TestRounds is P19.1 for Rounds, Depth and Coarsest: all models of up to three worlds, and samples of up to 64.
func TestRounds(t *testing.T) {
	depths := map[int]bool{}
	for _, m := range slices.Concat(samples(), small(3)) {
		checkRounds(t, m)
		n, _ := bisim.Depth(m)
		depths[n] = true
	}
	for _, n := range []int{0, 1, 2, 3, 4} {
		if !depths[n] {
			t.Error("no sample has the depth", n)
		}
	}
}

// TestEachRound is P19.1 for Rounds: each number of rounds in long chains and circles.
func TestEachRound(t *testing.T) {
	for _, m := range []api.Model{chain(64, 1), chain(64, 3), circle(64, 1), circle(40, 1<<7|1<<9|1<<30)} {
		all := together(m, m.Rel)
		for n, rows := range all {
			if p, e := bisim.Rounds(m, n); !slices.Equal(p, partitionOf(rows)) || e != api.OK {
				t.Errorf("Rounds(%v, %d) is %v, %d", m, n, p, e)
			}
		}
	}
}

// TestAgentsApart is P19.1: where each agent leads counts by itself. Each of two agents leads from one of the last worlds to where the other agent leads from the other one.
func TestAgentsApart(t *testing.T) {
	for s := range uint64(32) {
		for u := range uint64(32) {
			// The worlds 0 to 4 differ in their facts and have no successors.
			m := api.Model{Worlds: 7, Val: []uint64{1 | 1<<2 | 1<<4, 1<<1 | 1<<2, 1<<3 | 1<<4}, Rel: [][]uint64{{0, 0, 0, 0, 0, s, u}, {0, 0, 0, 0, 0, u, s}}}
			checkRounds(t, m)
		}
	}
}

// TestDepth is P19.1 for Depth and the last consequence: there are at most as many rounds as worlds, minus one.
func TestDepth(t *testing.T) {
	same := api.Model{Worlds: 64, Val: []uint64{full}, Rel: [][]uint64{slices.Repeat([]uint64{full}, 64)}}
	for _, c := range []struct {
		m    api.Model
		want int
	}{
		{api.Model{Worlds: 1}, 0}, {api.Model{Worlds: 64}, 0}, {same, 0}, {circle(64, 0), 0}, {circle(64, full), 0},
		{chain(1, 1), 0}, {chain(2, 1), 1}, {chain(3, 1), 2}, {chain(64, 1), 63}, {chain(64, 4), 60},
		{circle(64, 1), 62}, {circle(64, 1|1<<32), 30}, {circle(6, 21), 0},
	} {
		if n, e := bisim.Depth(c.m); n != c.want || e != api.OK {
			t.Errorf("Depth(%v) is %d, %d, not %d", c.m, n, e, c.want)
		}
	}
}

// groupLists returns lists of groups of a model's agents: none, all, single ones, and random ones.
func groupLists(r *rand.Rand, agents int) [][]int {
	l := [][]int{nil, {}}
	all := []int{}
	for group := 1; group < 1<<agents; group++ {
		l = append(l, []int{group})
		all = append(all, group)
	}
	l = append(l, all)
	if agents == 0 {
		return l
	}
	for _, length := range []int{2, 3, 15} {
		random := []int{}
		for range length {
			random = append(random, 1+r.IntN(1<<agents-1))
		}
		l = append(l, random)
	}
	return l
}

// TestWithGroups is P19.1 for WithGroups.
func TestWithGroups(t *testing.T) {
	r := rand.New(rand.NewPCG(19, 2))
	finer := 0
	for _, m := range samples() {
		for _, groups := range groupLists(r, len(m.Rel)) {
			all := together(m, withMeets(m, groups))
			want := partitionOf(all[len(all)-1])
			p, e := bisim.WithGroups(m, groups)
			if !slices.Equal(p, want) || e != api.OK {
				t.Errorf("WithGroups(%v, %v) is %v, %d, not %v", m, groups, p, e, want)
			}
			if coarsest, _ := bisim.Coarsest(m); !slices.Equal(p, coarsest) {
				finer++
				if !partition.Refines(p, coarsest) {
					t.Errorf("WithGroups(%v, %v) is %v, and Coarsest %v", m, groups, p, coarsest)
				}
			}
		}
	}
	if finer < 100 {
		t.Error("groups make a difference only so many times:", finer)
	}
}

// TestWithGroupsOrder is P19.1 for WithGroups: the order of the groups, groups that come again, and those of one agent make no difference.
func TestWithGroupsOrder(t *testing.T) {
	r := rand.New(rand.NewPCG(19, 3))
	for range 200 {
		big, _ := inflated(r, random(r, 4, 1, 3), 12)
		groups := []int{3, 6, 5}
		want, _ := bisim.WithGroups(big, groups)
		for _, others := range [][]int{{5, 6, 3}, {6, 3, 5, 3, 6}, {1, 3, 2, 6, 4, 5}, {3, 3, 3, 3, 3, 3, 3, 3, 3, 3, 3, 3, 3, 5, 6}} {
			if p, e := bisim.WithGroups(big, others); !slices.Equal(p, want) || e != api.OK {
				t.Errorf("WithGroups(%v, %v) is %v, %d, not %v", big, others, p, e, want)
			}
		}
	}
}

// TestErrors is P19.1 for the functions of one model: the errors in their order.
func TestErrors(t *testing.T) {
	m := random(rand.New(rand.NewPCG(19, 4)), 5, 1, 2)
	for _, n := range []int{-1, -2, math.MinInt} {
		if p, e := bisim.Rounds(m, n); len(p) != 0 || e != api.ErrRange {
			t.Errorf("Rounds(.., %d) is %v, %d", n, p, e)
		}
	}
	alone := api.Model{Worlds: 2}
	for i, c := range []struct {
		m      api.Model
		groups []int
		want   int
	}{
		{m, []int{0}, api.ErrRange}, {m, []int{4}, api.ErrRange}, {m, []int{-1}, api.ErrRange}, {m, []int{math.MinInt}, api.ErrRange}, {m, []int{math.MaxInt}, api.ErrRange},
		{m, []int{1, 2, 3, 4}, api.ErrRange}, {m, []int{3, 0, 3}, api.ErrRange}, {m, []int{1 << 32}, api.ErrRange}, {m, []int{15}, api.ErrRange},
		{m, slices.Repeat([]int{3}, 15), api.OK}, {m, slices.Repeat([]int{3}, 16), api.ErrLimit}, {m, slices.Repeat([]int{3}, 100000), api.ErrLimit},
		{m, slices.Repeat([]int{0}, 15), api.ErrRange}, {m, slices.Repeat([]int{0}, 16), api.ErrLimit},
		{alone, nil, api.OK}, {alone, []int{1}, api.ErrRange}, {alone, []int{0}, api.ErrRange}, {alone, make([]int, 16), api.ErrLimit},
		{chain(2, 4), []int{15}, api.OK}, {chain(2, 4), []int{16}, api.ErrRange}, {chain(2, 1), []int{1}, api.OK}, {chain(2, 1), []int{2}, api.ErrRange},
	} {
		if p, e := bisim.WithGroups(c.m, c.groups); e != c.want || (len(p) == 0) != (e != api.OK) {
			t.Errorf("case %d: %v, %d, not %d", i, p, e, c.want)
		}
	}
	each(func(m api.Model, want int) {
		if p, e := bisim.Coarsest(m); len(p) != 0 || e != want {
			t.Errorf("Coarsest(%v) is %v, %d", m, p, e)
		}
		if n, e := bisim.Depth(m); n != 0 || e != want {
			t.Errorf("Depth(%v) is %d, %d", m, n, e)
		}
		for _, n := range []int{0, 1, -1, math.MinInt, math.MaxInt} {
			if p, e := bisim.Rounds(m, n); len(p) != 0 || e != want {
				t.Errorf("Rounds(%v, %d) is %v, %d", m, n, p, e)
			}
		}
		for _, groups := range [][]int{nil, {1}, {0}, {-1}, make([]int, 16)} {
			if p, e := bisim.WithGroups(m, groups); len(p) != 0 || e != want {
				t.Errorf("WithGroups(%v, %v) is %v, %d", m, groups, p, e)
			}
		}
	})
}
