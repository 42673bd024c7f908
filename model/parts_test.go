package model_test

import (
	"math"
	"math/rand/v2"
	"slices"
	"testing"

	"witting/api"
	"witting/model"
)

// isImage reports whether a model consists of the worlds of a list: by facts and pairs, and nothing else.
func isImage(part, m api.Model, worlds []int) bool {
	if model.Check(part) != api.OK || part.Worlds != len(worlds) || len(part.Val) != len(m.Val) || len(part.Rel) != len(m.Rel) {
		return false
	}
	for i, w := range worlds {
		for fact := range m.Val {
			if has(part.Val[fact], i) != has(m.Val[fact], w) {
				return false
			}
		}
		for a := range m.Rel {
			for k, v := range worlds {
				if has(part.Rel[a][i], k) != has(m.Rel[a][w], v) {
					return false
				}
			}
		}
	}
	return true
}

// members returns the worlds of a set, from the lowest to the highest.
func members(s uint64) []int {
	l := []int{}
	for w := range 64 {
		if has(s, w) {
			l = append(l, w)
		}
	}
	return l
}

// TestRestrict is part of P13.2.
func TestRestrict(t *testing.T) {
	r := rand.New(rand.NewPCG(13, 2))
	for _, m := range samples() {
		for _, s := range sets(r, m.Worlds) {
			part, worlds, e := model.Restrict(m, s)
			if s == 0 {
				if e != api.ErrNone || !isZero(part) || len(worlds) != 0 {
					t.Fatalf("Restrict(%v, 0) is %v, %v, %d", m, part, worlds, e)
				}
				continue
			}
			if e != api.OK || !slices.Equal(worlds, members(s)) || !isImage(part, m, worlds) {
				t.Fatalf("Restrict(%v, %x) is %v, %v, %d", m, s, part, worlds, e)
			}
		}
		if part, _, e := model.Restrict(m, worldsBelow(m.Worlds)); e != api.OK || !model.Same(part, m) {
			t.Errorf("all worlds of %v: %v, %d", m, part, e)
		}
		for _, s := range outside(m.Worlds) {
			if part, worlds, e := model.Restrict(m, s); e != api.ErrRange || !isZero(part) || len(worlds) != 0 {
				t.Errorf("Restrict(%v, %x) is %v, %v, %d", m, s, part, worlds, e)
			}
		}
	}
	each(func(m api.Model, want int) {
		for _, s := range []uint64{0, 1, 1 << 63, full} {
			if part, worlds, e := model.Restrict(m, s); e != want || !isZero(part) || len(worlds) != 0 {
				t.Errorf("Restrict(%v, %x) is %v, %v, %d", m, s, part, worlds, e)
			}
		}
	})
}

// TestRestrictTwice is part of P13.5.
func TestRestrictTwice(t *testing.T) {
	r := rand.New(rand.NewPCG(13, 3))
	for _, m := range samples() {
		for _, s := range sets(r, m.Worlds) {
			once, outer, e := model.Restrict(m, s)
			if e != api.OK {
				continue
			}
			for _, u := range sets(r, once.Worlds) {
				twice, inner, e := model.Restrict(once, u)
				if e != api.OK {
					continue
				}
				both, want := uint64(0), []int{}
				for _, i := range inner {
					both |= 1 << outer[i]
					want = append(want, outer[i])
				}
				direct, worlds, e := model.Restrict(m, both)
				if e != api.OK || !model.Same(direct, twice) || !slices.Equal(worlds, want) {
					t.Fatalf("%v restricted to %x, then to %x: %v, %v", m, s, u, twice, direct)
				}
			}
		}
	}
}

// TestGenerated is part of P13.3 and P13.5: the worlds found by as many rounds as there are worlds.
func TestGenerated(t *testing.T) {
	r := rand.New(rand.NewPCG(13, 4))
	for _, m := range samples() {
		for _, from := range sets(r, m.Worlds) {
			want := from
			for range m.Worlds {
				for a := range m.Rel {
					for _, w := range members(want) {
						want |= m.Rel[a][w]
					}
				}
			}
			got, e := model.Generated(m, from)
			if e != api.OK || got != want {
				t.Fatalf("Generated(%v, %x) is %x, %d", m, from, got, e)
			}
			for a := range m.Rel {
				for _, w := range members(got) {
					if m.Rel[a][w]&^got != 0 {
						t.Fatalf("Generated(%v, %x): the agent %d leads out at %d", m, from, a, w)
					}
				}
			}
		}
		for _, from := range outside(m.Worlds) {
			if s, e := model.Generated(m, from); s != 0 || e != api.ErrRange {
				t.Errorf("Generated(%v, %x) is %x, %d", m, from, s, e)
			}
		}
	}
	each(func(m api.Model, want int) {
		for _, from := range []uint64{0, 1, 1 << 63, full} {
			if s, e := model.Generated(m, from); s != 0 || e != want {
				t.Errorf("Generated(%v, %x) is %x, %d", m, from, s, e)
			}
		}
	})
}

// TestGeneratedExamples is part of P13.3: chains, and agents that alone lead nowhere.
func TestGeneratedExamples(t *testing.T) {
	down := api.Model{Worlds: 64, Rel: [][]uint64{make([]uint64, 64), make([]uint64, 64)}}
	for w := 1; w < 64; w++ {
		down.Rel[w%2][w] = 1 << (w - 1)
	}
	for _, c := range []struct {
		m          api.Model
		from, want uint64
	}{
		{down, 1 << 63, full}, {down, 1 << 5, 63}, {down, 1, 1}, {down, 0, 0}, {down, 1<<40 | 1<<3, 1<<41 - 1},
		{ring(64, 1), 1 << 20, full}, {ring(64, 4), 1, full}, {ring(63, 2), 1 << 62, full >> 1},
		{api.Model{Worlds: 64}, full, full}, {api.Model{Worlds: 3}, 5, 5},
		{api.Model{Worlds: 3, Rel: [][]uint64{{2, 0, 0}, {0, 4, 0}}}, 1, 7},
		{api.Model{Worlds: 3, Rel: [][]uint64{{2, 0, 0}, {0, 4, 0}}}, 2, 6},
	} {
		if s, e := model.Generated(c.m, c.from); s != c.want || e != api.OK {
			t.Errorf("Generated(%v, %x) is %x, %d", c.m, c.from, s, e)
		}
	}
}

// permutations returns the list of the numbers below n, and others: turned round, shifted, and in random order.
func permutations(r *rand.Rand, n int) [][]int {
	same, turned, shifted := make([]int, n), make([]int, n), make([]int, n)
	for i := range n {
		same[i], turned[i], shifted[i] = i, n-1-i, (i+1)%n
	}
	return [][]int{same, turned, shifted, r.Perm(n), r.Perm(n)}
}

// TestRename is part of P13.3 and P13.5.
func TestRename(t *testing.T) {
	r := rand.New(rand.NewPCG(13, 5))
	for _, m := range samples() {
		for _, to := range permutations(r, m.Worlds) {
			got, e := model.Rename(m, to)
			if e != api.OK || got.Worlds != m.Worlds || !isImage(m, got, to) {
				t.Fatalf("Rename(%v, %v) is %v, %d", m, to, got, e)
			}
			back := make([]int, len(to))
			for w, v := range to {
				back[v] = w
			}
			if again, e := model.Rename(got, back); e != api.OK || !model.Same(again, m) {
				t.Fatalf("%v comes back from %v as %v, %d", m, to, again, e)
			}
		}
	}
}

// TestRenameErrors is part of P13.3.
func TestRenameErrors(t *testing.T) {
	fails := func(m api.Model, to []int, want int) {
		t.Helper()
		if got, e := model.Rename(m, to); e != want || !isZero(got) {
			t.Errorf("Rename(%v, %v) is %v, %d", m, to, got, e)
		}
	}
	for _, to := range [][]int{
		nil, {}, {0}, {0, 1}, {0, 1, 2, 3}, {0, 1, 2, 0}, {0, 1, 1}, {0, 0, 2}, {2, 1, 2}, {1, 2, 3}, {0, 1, 3}, {-1, 0, 1}, {0, 1, -1},
		{0, 1, 64}, {0, 1, 66}, {64, 65, 66}, {0, 1, math.MaxInt}, {math.MinInt, 1, 2}, make([]int, 100000),
	} {
		fails(example(), to, api.ErrArg)
	}
	one := api.Model{Worlds: 1}
	for _, to := range [][]int{nil, {1}, {-1}, {0, 0}, {0, 1}} {
		fails(one, to, api.ErrArg)
	}
	most := ring(64, 1)
	to := permutations(rand.New(rand.NewPCG(13, 6)), 64)[3]
	for i := range to {
		for _, v := range []int{-1, 64, to[(i+1)%64]} {
			wrong := slices.Clone(to)
			wrong[i] = v
			fails(most, wrong, api.ErrArg)
		}
	}
	each(func(m api.Model, want int) {
		for _, to := range [][]int{nil, {0}, {0, 1}, {5, 5, 5}} {
			fails(m, to, want)
		}
	})
}

// TestUnion is part of P13.3.
func TestUnion(t *testing.T) {
	for _, a := range samples() {
		for _, b := range samples() {
			u, e := model.Union(a, b)
			want := api.OK
			switch {
			case len(a.Rel) != len(b.Rel) || len(a.Val) != len(b.Val):
				want = api.ErrArg
			case a.Worlds+b.Worlds > 64:
				want = api.ErrLimit
			}
			if e != want || e != api.OK && !isZero(u) || e == api.OK && !isUnion(u, a, b) {
				t.Fatalf("Union(%v, %v) is %v, %d", a, b, u, e)
			}
		}
	}
}

// isUnion reports whether a model has two parts, and no pairs between them.
func isUnion(u, a, b api.Model) bool {
	all := make([]int, u.Worlds)
	for w := range all {
		all[w] = w
	}
	low, high := worldsBelow(a.Worlds), worldsBelow(u.Worlds)&^worldsBelow(a.Worlds)
	for _, r := range u.Rel {
		for w, successors := range r {
			if w < a.Worlds && successors&^low != 0 || w >= a.Worlds && successors&^high != 0 {
				return false
			}
		}
	}
	return u.Worlds == a.Worlds+b.Worlds && isImage(a, u, all[:a.Worlds]) && isImage(b, u, all[a.Worlds:])
}

// TestUnionExamples is part of P13.3: the sizes at the limit, and the order of the errors.
func TestUnionExamples(t *testing.T) {
	u, e := model.Union(example(), api.Model{Worlds: 2, Val: []uint64{2}, Rel: [][]uint64{{2, 0}, {3, 1}}})
	want := api.Model{Worlds: 5, Val: []uint64{3 | 16}, Rel: [][]uint64{{3, 3, 4, 16, 0}, {1, 6, 6, 24, 8}}}
	if e != api.OK || !model.Same(u, want) {
		t.Error("Union:", u, e)
	}
	for n := 1; n <= 64; n++ {
		for _, k := range []int{64 - n, 65 - n} {
			if k < 1 || k > 64 {
				continue
			}
			u, e := model.Union(ring(n, 1), ring(k, 1))
			if n+k == 64 && (e != api.OK || !isUnion(u, ring(n, 1), ring(k, 1))) || n+k == 65 && (e != api.ErrLimit || !isZero(u)) {
				t.Errorf("%d worlds and %d: %v, %d", n, k, u, e)
			}
		}
	}
	if u, e := model.Union(ring(64, 1), ring(64, 2)); e != api.ErrArg || !isZero(u) {
		t.Error("too many worlds, and numbers that differ:", u, e)
	}
	if u, e := model.Union(api.Model{Worlds: 1, Val: []uint64{1}}, api.Model{Worlds: 1}); e != api.ErrArg || !isZero(u) {
		t.Error("a fact more:", u, e)
	}
	each(func(m api.Model, want int) {
		if u, e := model.Union(m, example()); e != want || !isZero(u) {
			t.Errorf("Union(%v, ..) is %v, %d", m, u, e)
		}
		if u, e := model.Union(example(), m); e != want || !isZero(u) {
			t.Errorf("Union(.., %v) is %v, %d", m, u, e)
		}
		each(func(other api.Model, _ int) {
			if u, e := model.Union(m, other); e != want || !isZero(u) {
				t.Errorf("Union(%v, %v) is %v, %d", m, other, u, e)
			}
		})
	})
}
