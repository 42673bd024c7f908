package isomorph_test

import (
	"math"
	"math/rand/v2"
	"slices"
	"testing"

	"witting/api"
	"witting/isomorph"
	"witting/model"
)

// TestExamples are the chapter's examples.
func TestExamples(t *testing.T) {
	m := api.Model{Worlds: 3, Rel: [][]uint64{{2, 4, 1}}}
	if l, e := isomorph.Colors(m); e != api.OK || !slices.Equal(l, []int{0, 0, 0}) {
		t.Error("Colors:", l, e)
	}
	if n, e := isomorph.Automorphisms(m); n != 3 || e != api.OK {
		t.Error("Automorphisms:", n, e)
	}
	m.Val = []uint64{2}
	if l, e := isomorph.Colors(m); e != api.OK || !slices.Equal(l, []int{1, 2, 0}) {
		t.Error("Colors with a fact:", l, e)
	}
	if n, e := isomorph.Automorphisms(m); n != 1 || e != api.OK {
		t.Error("Automorphisms with a fact:", n, e)
	}
	c, l, e := isomorph.Canonical(m, 1)
	if want := (api.Model{Worlds: 3, Val: []uint64{1}, Rel: [][]uint64{{4, 1, 2}}}); e != api.OK || !model.Same(c, want) || !slices.Equal(l, []int{1, 0, 2}) {
		t.Error("Canonical:", c, l, e)
	}
}

// TestColors is P16.1 for Colors.
func TestColors(t *testing.T) {
	for _, m := range append(samples(), small(3)...) {
		if got, e := isomorph.Colors(m); e != api.OK || !slices.Equal(got, colorsOf(m)) {
			t.Errorf("Colors(%v) is %v, %d, not %v", m, got, e, colorsOf(m))
		}
	}
	each(func(m api.Model, want int) {
		if got, e := isomorph.Colors(m); e != want || len(got) != 0 {
			t.Errorf("Colors(%v) is %v, %d", m, got, e)
		}
	})
}

// TestColorsByHand is P16.1 for Colors: the order of facts, agents, directions and lists.
func TestColorsByHand(t *testing.T) {
	for _, c := range []struct {
		m    api.Model
		want []int
	}{
		{api.Model{Worlds: 4, Val: []uint64{3, 5}}, []int{3, 1, 2, 0}},                         // masks 3, 1, 2, 0
		{api.Model{Worlds: 4, Val: []uint64{6, 8}}, []int{0, 1, 1, 2}},                         // ranks of masks 0, 1, 1, 2
		{api.Model{Worlds: 3, Rel: [][]uint64{{0, 0, 1}}}, []int{1, 0, 2}},                     // no arrow, one back, one forth
		{api.Model{Worlds: 3, Rel: [][]uint64{{2, 0, 0}, {0, 0, 2}}}, []int{2, 0, 1}},          // the first agent decides between 0 and 2
		{api.Model{Worlds: 3, Val: []uint64{2}, Rel: [][]uint64{{2, 0, 3}}}, []int{1, 2, 0}},   // [0 1] comes before [1]
		{api.Model{Worlds: 5, Rel: [][]uint64{{6, 0, 0, 16, 0}}}, []int{3, 1, 1, 2, 0}},        // as often as they occur: 0 leads to two worlds, 3 to one
		{api.Model{Worlds: 4, Rel: [][]uint64{{4, 8, 0, 0}, {8, 0, 0, 0}}}, []int{3, 2, 0, 1}}, // successors for both agents stand before predecessors
		{graph(4, func(w int) []int { return []int{max(w-1, 0)} }), []int{3, 2, 1, 0}},         // a chain to a loop
		{withFact(rings(true, 3, 3), 1<<4), []int{0, 0, 0, 1, 2, 1}},                           // two triangles, of which one has the fact
	} {
		if got, e := isomorph.Colors(c.m); e != api.OK || !slices.Equal(got, c.want) {
			t.Errorf("Colors(%v) is %v, %d, not %v", c.m, got, e, c.want)
		}
	}
}

// TestColorsAreKept is part of P16.2.
func TestColorsAreKept(t *testing.T) {
	r := rand.New(rand.NewPCG(16, 2))
	for _, m := range samples() {
		colors, _ := isomorph.Colors(m)
		to := r.Perm(m.Worlds)
		images, e := isomorph.Colors(moved(m, to))
		for w, v := range to {
			if e != api.OK || images[v] != colors[w] {
				t.Fatalf("%v: the colors are %v, those of the image by %v are %v, %d", m, colors, to, images, e)
			}
		}
	}
}

// TestCanonical is P16.1 for Canonical.
func TestCanonical(t *testing.T) {
	accepted := 0
	for _, m := range append(samples(), small(3)...) {
		z := bisimilar(m, m)
		for _, w := range roots(m) {
			got, order, e := isomorph.Canonical(m, w)
			if hasTwins(z, reachable(m, w)) {
				if e != api.ErrState || !isZero(got) || len(order) != 0 {
					t.Errorf("Canonical(%v, %d) is %v, %v, %d, with bisimilar worlds", m, w, got, order, e)
				}
				continue
			}
			accepted++
			want, worlds := canonicalFrom(m, w)
			if e != api.OK || !model.Same(got, want) || !slices.Equal(order, worlds) {
				t.Errorf("Canonical(%v, %d) is %v, %v, %d, not %v, %v", m, w, got, order, e, want, worlds)
			}
			if len(order) == 0 || order[0] != w {
				t.Errorf("Canonical(%v, %d): the root has not the number 0 in %v", m, w, order)
			}
		}
	}
	if accepted < 1000 {
		t.Error("few models without bisimilar worlds:", accepted)
	}
}

// TestCanonicalByHand is P16.1 for Canonical: bisimilar worlds that count, and those that do not.
func TestCanonicalByHand(t *testing.T) {
	pair := api.Model{Worlds: 2, Rel: [][]uint64{{2, 1}}}
	for w := range 2 {
		if c, l, e := isomorph.Canonical(pair, w); e != api.ErrState || !isZero(c) || len(l) != 0 {
			t.Error("the root and another world are bisimilar:", c, l, e)
		}
	}
	apart := api.Model{Worlds: 3, Val: []uint64{6}, Rel: [][]uint64{{1, 2, 4}}}
	if c, l, e := isomorph.Canonical(apart, 2); e != api.OK || !model.Same(c, api.Model{Worlds: 1, Val: []uint64{1}, Rel: [][]uint64{{1}}}) || !slices.Equal(l, []int{2}) {
		t.Error("a bisimilar world that cannot be reached:", c, l, e)
	}
	// From the world 3: the worlds 0 and 2 have the facts 1 and 2; 1 has none, and agent 1 alone leads there.
	m := api.Model{Worlds: 5, Val: []uint64{1, 4}, Rel: [][]uint64{{0, 0, 0, 5, 0}, {2, 0, 0, 0, 8}}}
	want := api.Model{Worlds: 4, Val: []uint64{4, 8}, Rel: [][]uint64{{12, 0, 0, 0}, {0, 0, 2, 0}}}
	if c, l, e := isomorph.Canonical(m, 3); e != api.OK || !model.Same(c, want) || !slices.Equal(l, []int{3, 1, 0, 2}) {
		t.Error("Canonical:", c, l, e)
	}
	// Numbers count once: the world 1 leads to one world of the number 3, and 2 to two of them, in the first round.
	m = graph(6, func(w int) []int { return [][]int{{1, 2}, {3}, {3, 4}, {}, {5}, {4, 5, 0}}[w] })
	if c, l, e := isomorph.Canonical(m, 0); e != api.OK || c.Worlds != 6 || len(l) != 6 || l[0] != 0 {
		t.Error("Canonical:", c, l, e)
	}
	chain := graph(64, func(w int) []int { return [][]int{{w + 1}, {}}[w/63] })
	if c, l, e := isomorph.Canonical(chain, 0); e != api.OK || c.Worlds != 64 || l[0] != 0 || l[1] != 63 || l[63] != 1 {
		t.Error("a chain:", c, l, e)
	}
}

// TestCanonicalErrors is P16.1 for Canonical.
func TestCanonicalErrors(t *testing.T) {
	fails := func(m api.Model, w, want int) {
		t.Helper()
		if c, l, e := isomorph.Canonical(m, w); e != want || !isZero(c) || len(l) != 0 {
			t.Errorf("Canonical(%v, %d) is %v, %v, %d", m, w, c, l, e)
		}
	}
	for _, m := range samples() {
		for _, w := range []int{math.MinInt, -1, m.Worlds, 64, 65, math.MaxInt} {
			fails(m, w, api.ErrRange)
		}
	}
	each(func(m api.Model, want int) {
		for _, w := range []int{math.MinInt, -1, 0, 1, 64, math.MaxInt} {
			fails(m, w, want)
		}
	})
}

// TestRenumbered is part of P16.2: Canonical from the image of a world returns the same model.
func TestRenumbered(t *testing.T) {
	r := rand.New(rand.NewPCG(16, 3))
	for _, m := range append(samples(), small(3)...) {
		to := r.Perm(m.Worlds)
		other := moved(m, to)
		for _, w := range roots(m) {
			c, l, e := isomorph.Canonical(m, w)
			d, k, f := isomorph.Canonical(other, to[w])
			if e != f || !model.Same(c, d) {
				t.Fatalf("Canonical(%v, %d) is %v, %d; with the numbers %v it is %v, %d", m, w, c, e, to, d, f)
			}
			for i := range l {
				if to[l[i]] != k[i] {
					t.Fatalf("Canonical(%v, %d) has the worlds %v; with the numbers %v they are %v", m, w, l, to, k)
				}
			}
		}
	}
}

// TestSameModel is part of P16.2: two worlds that Canonical accepts are bisimilar exactly if it returns the same model.
func TestSameModel(t *testing.T) {
	found := []api.Model{}
	for _, m := range slices.Concat(small(1), small(2), small(3)) {
		for w := range m.Worlds {
			c, _, e := isomorph.Canonical(m, w)
			if e != api.OK {
				continue
			}
			if !has(bisimilar(m, c)[w], 0) {
				t.Fatalf("Canonical(%v, %d) is %v, whose world 0 differs", m, w, c)
			}
			if !slices.ContainsFunc(found, func(d api.Model) bool { return model.Same(c, d) }) {
				found = append(found, c)
			}
		}
	}
	for i, c := range found {
		for _, d := range found[:i] {
			if has(bisimilar(c, d)[0], 0) {
				t.Errorf("the worlds 0 of %v and %v are bisimilar", c, d)
			}
		}
	}
	if len(found) < 100 {
		t.Error("few models:", len(found))
	}
}
