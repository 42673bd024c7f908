package isomorph_test

import (
	"math"
	"math/rand/v2"
	"slices"
	"testing"

	"witting/api"
	"witting/isomorph"
	"witting/model"
)

// TestCheck is P16.1 for Check: all lists of the worlds of small models.
func TestCheck(t *testing.T) {
	r := rand.New(rand.NewPCG(16, 4))
	all := slices.Concat(small(1), small(2), small(3))
	for range 3000 {
		a := all[r.IntN(len(all))]
		b := all[r.IntN(len(all))]
		if r.IntN(2) == 0 {
			b = moved(a, r.Perm(a.Worlds))
		}
		if a.Worlds != b.Worlds {
			continue
		}
		for _, to := range permutations(a.Worlds) {
			want := api.ErrProof
			if isIsomorphism(a, b, to) {
				want = api.OK
			}
			if e := isomorph.Check(a, b, to); e != want {
				t.Errorf("Check(%v, %v, %v) is %d", a, b, to, e)
			}
		}
	}
}

// TestCheckChanges is P16.1 for Check: large models, of which one has a changed place.
func TestCheckChanges(t *testing.T) {
	r := rand.New(rand.NewPCG(16, 5))
	for _, a := range samples() {
		to := r.Perm(a.Worlds)
		if e := isomorph.Check(a, moved(a, to), to); e != api.OK {
			t.Errorf("Check(%v, .., %v) is %d", a, to, e)
		}
		for fact := range a.Val {
			b := moved(a, to)
			b.Val[fact] ^= 1 << r.IntN(a.Worlds)
			if e := isomorph.Check(a, b, to); e != api.ErrProof {
				t.Errorf("Check(%v, %v, %v) is %d", a, b, to, e)
			}
		}
		for agent := range a.Rel {
			b := moved(a, to)
			b.Rel[agent][r.IntN(a.Worlds)] ^= 1 << r.IntN(a.Worlds)
			if e := isomorph.Check(a, b, to); e != api.ErrProof {
				t.Errorf("Check(%v, %v, %v) is %d", a, b, to, e)
			}
		}
	}
}

// TestCheckErrors is P16.1 for Check: the errors in their order.
func TestCheckErrors(t *testing.T) {
	a := api.Model{Worlds: 3, Val: []uint64{1}, Rel: [][]uint64{{2, 4, 1}}}
	lists := [][]int{nil, {0}, {0, 1}, {0, 1, 1}, {0, 0, 2}, {2, 1, 2}, {0, 1, 3}, {-1, 0, 1}, {0, 1, -1}, {0, 1, 2, 0}, {0, 1, 2, 3}, {0, 1, 64}, {0, 1, 65}, {64, 65, 66}, {math.MinInt, 1, 2}, {0, 1, math.MaxInt}, make([]int, 100000)}
	for _, to := range lists {
		if e := isomorph.Check(a, a, to); e != api.ErrForm {
			t.Errorf("Check(.., %v) is %d", to, e)
		}
	}
	lists = append(lists, []int{0, 1, 2}, []int{2, 1, 0})
	for _, b := range []api.Model{
		{Worlds: 3, Val: []uint64{1}}, {Worlds: 3, Rel: [][]uint64{{2, 4, 1}}}, {Worlds: 3, Val: []uint64{1, 1}, Rel: [][]uint64{{2, 4, 1}}}, {Worlds: 3, Val: []uint64{1}, Rel: [][]uint64{{2, 4, 1}, {2, 4, 1}}},
		{Worlds: 2, Val: []uint64{1}, Rel: [][]uint64{{2, 1}}}, {Worlds: 4, Val: []uint64{1}, Rel: [][]uint64{{2, 4, 1, 0}}}, {Worlds: 64, Val: []uint64{1}, Rel: [][]uint64{make([]uint64, 64)}},
	} {
		for _, to := range lists {
			if e, f := isomorph.Check(a, b, to), isomorph.Check(b, a, to); e != api.ErrArg || f != api.ErrArg {
				t.Errorf("Check(%v, %v, %v) is %d, and %d the other way round", a, b, to, e, f)
			}
		}
	}
	each(func(m api.Model, want int) {
		for _, to := range lists {
			if e := isomorph.Check(m, a, to); e != want {
				t.Errorf("Check(%v, .., %v) is %d", m, to, e)
			}
			if e := isomorph.Check(a, m, to); e != want {
				t.Errorf("Check(.., %v, %v) is %d", m, to, e)
			}
			each(func(other api.Model, _ int) {
				if e := isomorph.Check(m, other, to); e != want {
					t.Errorf("Check(%v, %v, %v) is %d", m, other, to, e)
				}
			})
		}
	})
}

// finds reports whether Isomorphic returns an isomorphism if there is one, and ErrNone otherwise.
func finds(a, b api.Model, exists bool) bool {
	to, e := isomorph.Isomorphic(a, b)
	if !exists {
		return e == api.ErrNone && len(to) == 0
	}
	return e == api.OK && isIsomorphism(a, b, to) && isomorph.Check(a, b, to) == api.OK
}

// TestIsomorphic is P16.1 for Isomorphic, and against all lists of the worlds of small models.
func TestIsomorphic(t *testing.T) {
	r := rand.New(rand.NewPCG(16, 6))
	all := slices.Concat(small(1), small(2), small(3))
	for range 20000 {
		a, b := all[r.IntN(len(all))], all[r.IntN(len(all))]
		exists := slices.ContainsFunc(permutations(a.Worlds), func(to []int) bool { return isIsomorphism(a, b, to) })
		if !finds(a, b, exists) {
			t.Errorf("Isomorphic(%v, %v) should be found: %t", a, b, exists)
		}
	}
	for _, a := range slices.Concat(all, samples()) {
		if b := moved(a, r.Perm(a.Worlds)); a.Worlds <= 12 && !finds(a, b, true) {
			t.Errorf("Isomorphic(%v, %v)", a, b)
		}
	}
}

// TestIsomorphicOfFive is P16.1 for Isomorphic: relations of five worlds that differ in an arrow or two.
func TestIsomorphicOfFive(t *testing.T) {
	r := rand.New(rand.NewPCG(16, 7))
	lists := permutations(5)
	for i := range 2000 {
		a := random(r, 5, i%2, 1+i%3)
		b := moved(a, r.Perm(5))
		for range r.IntN(3) {
			b.Rel[r.IntN(len(b.Rel))][r.IntN(5)] ^= 1 << r.IntN(5)
		}
		exists := slices.ContainsFunc(lists, func(to []int) bool { return isIsomorphism(a, b, to) })
		if !finds(a, b, exists) {
			t.Errorf("Isomorphic(%v, %v) should be found: %t", a, b, exists)
		}
	}
}

// TestRegular is P16.1 for Isomorphic: models that look the same from each world.
func TestRegular(t *testing.T) {
	prism := graph(6, func(w int) []int { return []int{w/3*3 + (w+1)%3, w/3*3 + (w+2)%3, (w + 3) % 6} })
	groups := [][]api.Model{
		{rings(false, 12), rings(false, 6, 6), rings(false, 4, 8), rings(false, 3, 9), rings(false, 4, 4, 4), rings(false, 3, 3, 6), rings(false, 3, 3, 3, 3), rings(false, 3, 4, 5), rings(false, 2, 10), rings(false, 1, 11)},
		{rings(true, 12), rings(true, 6, 6), rings(true, 4, 8), rings(true, 3, 9), rings(true, 4, 4, 4), rings(true, 3, 3, 6), rings(true, 3, 3, 3, 3), rings(true, 3, 4, 5), rings(true, 5, 7)},
		{twice(rings(false, 12)), twice(rings(false, 6, 6)), twice(rings(false, 3, 9))},
		{prism, circulant(6, 1, 3, 5)},
		{circulant(12, 1, 11, 6), circulant(12, 1, 5, 7, 11), circulant(12, 1, 2, 10, 11), circulant(12, 2, 10, 6), circulant(12, 3, 9, 6)},
		{circulant(11, 1), circulant(12, 1), circulant(12), circulant(11)},
		{withFact(rings(false, 6), 1), withFact(rings(false, 6), 3), withFact(rings(false, 6), 5), withFact(rings(false, 6), 9), withFact(rings(false, 6), 7)},
		{{Worlds: 11}, {Worlds: 12}},
	}
	r := rand.New(rand.NewPCG(16, 8))
	for _, group := range groups {
		for i, a := range group {
			for k, b := range group {
				for range 3 {
					if c := moved(b, r.Perm(b.Worlds)); !finds(a, c, i == k) {
						t.Errorf("Isomorphic(%v, %v) should be found: %t", a, c, i == k)
					}
				}
			}
		}
	}
	for _, c := range [][2]api.Model{
		{circulant(12, 1), circulant(12, 5)}, {circulant(12, 1, 2), circulant(12, 5, 10)}, {circulant(8, 1, 2, 5), circulant(8, 3, 6, 7)},
		{withFact(rings(false, 6), 1), withFact(rings(false, 6), 8)}, {circulant(6, 1, 3, 5), graph(6, func(w int) []int { return []int{(w/3*3 + 3) % 6, (w/3*3 + 4) % 6, (w/3*3 + 5) % 6} })},
	} {
		if !finds(c[0], c[1], true) || !finds(c[1], c[0], true) {
			t.Errorf("Isomorphic(%v, %v)", c[0], c[1])
		}
	}
}

// TestIsomorphicErrors is P16.1 for Isomorphic: the errors in their order.
func TestIsomorphicErrors(t *testing.T) {
	fails := func(a, b api.Model, want int) {
		t.Helper()
		if to, e := isomorph.Isomorphic(a, b); e != want || len(to) != 0 {
			t.Errorf("Isomorphic(%v, %v) is %v, %d", a, b, to, e)
		}
	}
	other := func(n int) []api.Model {
		return []api.Model{{Worlds: n}, twice(circulant(n, 1)), withFact(circulant(n, 1), 1)}
	}
	for _, n := range []int{1, 12, 13, 64} {
		for _, k := range []int{1, 12, 13, 64} {
			for _, m := range other(n) {
				fails(m, circulant(k, 1), api.ErrArg)
				fails(circulant(k, 1), m, api.ErrArg)
			}
			if n > 12 || k > 12 {
				fails(circulant(n, 1), circulant(k, 1), api.ErrLimit)
			} else if n != k {
				fails(circulant(n, 1), circulant(k, 1), api.ErrNone)
			}
		}
	}
	each(func(m api.Model, want int) {
		for _, n := range []int{1, 12, 13, 64} {
			for _, good := range append(other(n), circulant(n, 1)) {
				fails(m, good, want)
				fails(good, m, want)
			}
		}
		each(func(other api.Model, _ int) { fails(m, other, want) })
	})
}

// TestAutomorphisms is P16.1 for Automorphisms: against all lists of the worlds, and with numbers that are known.
func TestAutomorphisms(t *testing.T) {
	r := rand.New(rand.NewPCG(16, 9))
	l := slices.Concat(small(1), small(2), small(3))
	for range 200 {
		l = append(l, random(r, 4+r.IntN(2), r.IntN(2), r.IntN(3)))
	}
	for _, m := range l {
		want := 0
		for _, to := range permutations(m.Worlds) {
			if isIsomorphism(m, m, to) {
				want++
			}
		}
		if n, e := isomorph.Automorphisms(m); n != want || e != api.OK {
			t.Errorf("Automorphisms(%v) is %d, %d, not %d", m, n, e, want)
		}
	}
	cube := graph(8, func(w int) []int { return []int{w ^ 1, w ^ 2, w ^ 4} })
	for _, c := range []struct {
		m    api.Model
		want int
	}{
		{api.Model{Worlds: 8}, 40320}, {circulant(8), 40320}, {circulant(8, 0, 1, 2, 3, 4, 5, 6, 7), 40320}, {circulant(8, 0), 40320},
		{circulant(8, 1), 8}, {circulant(8, 1, 7), 16}, {twice(circulant(8, 1)), 8}, {cube, 48}, {withFact(cube, 1), 6}, {withFact(cube, 1|1<<7), 12}, {withFact(circulant(8, 1, 7), 1), 2},
		{circulant(8, 1, 3, 5, 7), 1152}, {rings(false, 4, 4), 32}, {rings(true, 4, 4), 128}, {rings(true, 3, 5), 60}, {circulant(7, 1, 2, 4), 21}, {circulant(8, 4), 384},
		{api.Model{Worlds: 8, Val: []uint64{1, 2, 4, 8, 16, 32, 64}}, 1}, {api.Model{Worlds: 8, Val: []uint64{15}}, 576},
	} {
		if n, e := isomorph.Automorphisms(c.m); n != c.want || e != api.OK {
			t.Errorf("Automorphisms(%v) is %d, %d, not %d", c.m, n, e, c.want)
		}
	}
	for _, n := range []int{9, 12, 13, 64} {
		for _, m := range []api.Model{{Worlds: n}, circulant(n, 1)} {
			if count, e := isomorph.Automorphisms(m); count != 0 || e != api.ErrLimit {
				t.Errorf("Automorphisms(%v) is %d, %d", m, count, e)
			}
		}
	}
	each(func(m api.Model, want int) {
		if n, e := isomorph.Automorphisms(m); n != 0 || e != want {
			t.Errorf("Automorphisms(%v) is %d, %d", m, n, e)
		}
	})
}

// mark stands in the spare capacity of arguments.
const mark = 77

// spare returns a copy of a model whose lists have spare capacity with marks.
func spare(m api.Model) api.Model {
	c := api.Model{Worlds: m.Worlds, Val: append(slices.Clone(m.Val), mark)[:len(m.Val)]}
	for _, r := range m.Rel {
		c.Rel = append(c.Rel, append(slices.Clone(r), mark)[:len(r)])
	}
	c.Rel = append(c.Rel, []uint64{mark})[:len(m.Rel)]
	return c
}

// isKept reports whether a model that spare returned is still m, with its marks.
func isKept(c, m api.Model) bool {
	marks := c.Val[:len(c.Val)+1][len(c.Val)] == mark && slices.Equal(c.Rel[:len(c.Rel)+1][len(c.Rel)], []uint64{mark})
	for _, r := range c.Rel {
		marks = marks && r[:len(r)+1][len(r)] == mark
	}
	return marks && model.Same(c, m)
}

// fill overwrites a list, with its spare capacity.
func fill[T int | uint64](l []T) {
	l = l[:cap(l)]
	for i := range l {
		l[i] = 99
	}
}

// TestMemory is the rule 'Values' of DOC.md: arguments stay as they are, and results share nothing with them or with each other.
func TestMemory(t *testing.T) {
	r := rand.New(rand.NewPCG(16, 10))
	for _, m := range samples() {
		same := r.Perm(m.Worlds)
		to := append(slices.Clone(same), mark)[:m.Worlds]
		a, b := spare(m), spare(moved(m, same))
		isomorph.Check(a, b, to)
		for range 2 {
			colors, _ := isomorph.Colors(a)
			if !slices.Equal(colors, colorsOf(m)) {
				t.Errorf("Colors(%v) is %v", m, colors)
			}
			fill(colors)
			if m.Worlds <= 12 {
				image, e := isomorph.Isomorphic(a, b)
				if e != api.OK || !isIsomorphism(m, b, image) {
					t.Errorf("Isomorphic(%v, %v) is %v, %d", m, b, image, e)
				}
				fill(image)
			}
			isomorph.Automorphisms(a)
			fillCanonical(t, a, m)
		}
		if !isKept(a, m) || !isKept(b, moved(m, same)) || !slices.Equal(to, same) || to[:m.Worlds+1][m.Worlds] != mark {
			t.Errorf("an argument has changed: %v, %v, %v", a, b, to)
		}
	}
}

// fillCanonical overwrites the result of Canonical for a model that is equal to m, list by list.
func fillCanonical(t *testing.T, a, m api.Model) {
	t.Helper()
	c, l, e := isomorph.Canonical(a, 0)
	if e != api.OK {
		return
	}
	want, worlds := canonicalFrom(m, 0)
	fill(c.Val)
	for agent, r := range c.Rel {
		if !slices.Equal(r, want.Rel[agent]) {
			t.Errorf("Canonical(%v, 0): the relation of %d is %v", m, agent, r)
		}
		fill(r)
	}
	if !slices.Equal(l, worlds) {
		t.Errorf("Canonical(%v, 0): the worlds are %v", m, l)
	}
	fill(l)
}
