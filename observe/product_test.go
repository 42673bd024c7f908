package observe_test

import (
	"math/rand/v2"
	"slices"
	"testing"

	"witting/api"
	"witting/model"
	"witting/observe"
)

// checkProduct checks P22.6 for two models whose product is not too large, pair by pair.
func checkProduct(t *testing.T, a, b api.Model) {
	t.Helper()
	m, pairs, e := observe.Product(a, b)
	if model.Check(m) != api.OK || m.Worlds != a.Worlds*b.Worlds || len(pairs) != m.Worlds || len(m.Val) != len(a.Val)+len(b.Val) || len(m.Rel) != len(a.Rel) || e != api.OK {
		t.Fatalf("Product(%v, %v) is %v, %v, %d", a, b, m, pairs, e)
	}
	for i, p := range pairs {
		if p != [2]int{i / b.Worlds, i % b.Worlds} {
			t.Fatalf("Product(%v, %v) has the pairs %v", a, b, pairs)
		}
		if want := model.Facts(a, p[0]) | model.Facts(b, p[1])<<len(a.Val); model.Facts(m, i) != want {
			t.Fatalf("Product(%v, %v) is %v, with other facts at %v than %b", a, b, m, p, want)
		}
		for agent := range m.Rel {
			for k, q := range pairs {
				if has(m.Rel[agent][i], k) != (has(a.Rel[agent][p[0]], q[0]) && has(b.Rel[agent][p[1]], q[1])) {
					t.Fatalf("Product(%v, %v) is %v: the agent %d at %v and %v", a, b, m, agent, p, q)
				}
			}
		}
	}
}

// TestProduct is P22.6: all pairs of small models, and random ones up to the limits.
func TestProduct(t *testing.T) {
	l := slices.Concat(small(1), small(2))
	for _, a := range l {
		for _, b := range l {
			checkProduct(t, a, b)
		}
	}
	r := rand.New(rand.NewPCG(22, 6))
	for _, sizes := range [][2]int{{1, 1}, {1, 64}, {64, 1}, {8, 8}, {2, 32}, {32, 2}, {16, 4}, {9, 7}, {7, 9}, {21, 3}, {3, 20}, {5, 1}} {
		for range 8 {
			facts, agents := r.IntN(9), r.IntN(5)
			checkProduct(t, random(r, sizes[0], facts, agents), random(r, sizes[1], r.IntN(9-facts), agents))
		}
		checkProduct(t, random(r, sizes[0], 8, 4), random(r, sizes[1], 0, 4))
		checkProduct(t, random(r, sizes[0], 3, 4), random(r, sizes[1], 5, 4))
	}
	all := slices.Repeat([]uint64{255}, 8)
	checkProduct(t, api.Model{Worlds: 8, Val: all[:4], Rel: [][]uint64{all, all}}, api.Model{Worlds: 8, Val: all[:4], Rel: [][]uint64{all, all}})
}

// TestProductErrors is P22.6: the errors in their order.
func TestProductErrors(t *testing.T) {
	wants := func(a, b api.Model, want int) {
		t.Helper()
		if m, pairs, e := observe.Product(a, b); !isZero(m) || len(pairs) != 0 || e != want {
			t.Errorf("Product(%v, %v) is %v, %v, %d, not %d", a, b, m, pairs, e, want)
		}
	}
	r := rand.New(rand.NewPCG(22, 7))
	for _, sizes := range [][2]int{{64, 2}, {2, 64}, {64, 64}, {13, 5}, {5, 13}, {9, 8}, {33, 2}, {3, 22}} {
		wants(random(r, sizes[0], 1, 2), random(r, sizes[1], 1, 2), api.ErrLimit)
		wants(random(r, sizes[0], 1, 2), random(r, sizes[1], 1, 3), api.ErrArg)
	}
	for _, facts := range [][2]int{{8, 1}, {1, 8}, {8, 8}, {4, 5}} {
		wants(random(r, 1, facts[0], 1), random(r, 2, facts[1], 1), api.ErrLimit)
		wants(random(r, 64, facts[0], 1), random(r, 64, facts[1], 1), api.ErrLimit)
		wants(random(r, 1, facts[0], 1), random(r, 2, facts[1], 0), api.ErrArg)
	}
	for a := range 5 {
		for b := range 5 {
			if a != b {
				wants(random(r, 2, 1, a), random(r, 2, 1, b), api.ErrArg)
			}
		}
	}
	each(func(m api.Model, want int) {
		wants(m, example(), want)
		wants(example(), m, want)
		wants(m, api.Model{Worlds: 64, Val: make([]uint64, 8)}, want)
		each(func(other api.Model, _ int) { wants(m, other, want) })
	})
}
