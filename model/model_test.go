package model_test

import (
	"math"
	"slices"
	"testing"

	"witting/api"
	"witting/model"
)

// TestExamples are the chapter's examples.
func TestExamples(t *testing.T) {
	m := example()
	if e := model.Check(m); e != api.OK || model.Facts(m, 2) != 0 || model.Facts(m, 0) != 1 {
		t.Error("Check, Facts:", e, model.Facts(m, 2), model.Facts(m, 0))
	}
	part, worlds, e := model.Restrict(m, 6)
	want := api.Model{Worlds: 2, Val: []uint64{1}, Rel: [][]uint64{{1, 2}, {3, 3}}}
	if e != api.OK || !model.Same(part, want) || !slices.Equal(worlds, []int{1, 2}) {
		t.Error("Restrict:", part, worlds, e)
	}
	for _, from := range []uint64{1, 4} {
		if s, e := model.Generated(m, from); s != 7 || e != api.OK {
			t.Error("Generated:", from, s, e)
		}
	}
	if union, meet := model.Group(m, 3), model.Meet(m, 3); !slices.Equal(union, []uint64{3, 7, 6}) || !slices.Equal(meet, []uint64{1, 2, 4}) {
		t.Error("Group, Meet:", union, meet)
	}
	turned, e := model.Rename(m, []int{2, 1, 0})
	want = api.Model{Worlds: 3, Val: []uint64{6}, Rel: [][]uint64{{1, 6, 6}, {3, 3, 4}}}
	if e != api.OK || !model.Same(turned, want) {
		t.Error("Rename:", turned, e)
	}
}

// TestCheck is part of P13.1.
func TestCheck(t *testing.T) {
	for _, m := range samples() {
		if e := model.Check(m); e != api.OK {
			t.Errorf("Check(%v) is %d", m, e)
		}
	}
	each(func(m api.Model, want int) {
		if e := model.Check(m); e != want {
			t.Errorf("Check(%v) is %d, not %d", m, e, want)
		}
	})
}

// TestCheckBits is part of P13.1: each world that there is not, at each place.
func TestCheckBits(t *testing.T) {
	for worlds := 1; worlds <= 64; worlds++ {
		m := api.Model{Worlds: worlds, Val: make([]uint64, 8), Rel: make([][]uint64, 4)}
		for a := range m.Rel {
			m.Rel[a] = make([]uint64, worlds)
		}
		for w := range 64 {
			want := api.OK
			if w >= worlds {
				want = api.ErrRange
			}
			for _, place := range []*uint64{&m.Val[0], &m.Val[7], &m.Rel[0][0], &m.Rel[0][worlds-1], &m.Rel[3][0], &m.Rel[3][worlds-1]} {
				*place = 1 << w
				if e := model.Check(m); e != want {
					t.Errorf("the world %d of %d: %d", w, worlds, e)
				}
				*place = 0
			}
		}
	}
}

// TestSame is part of P13.1: also for models that are not valid.
func TestSame(t *testing.T) {
	l := []api.Model{
		{}, {Worlds: 1}, {Worlds: 2}, {Worlds: -1}, {Worlds: math.MaxInt},
		{Worlds: 1, Val: []uint64{0}}, {Worlds: 1, Val: []uint64{1}}, {Worlds: 1, Val: []uint64{1, 0}}, {Worlds: 1, Val: []uint64{0, 1}}, {Worlds: 1, Val: []uint64{full}},
		{Worlds: 1, Rel: [][]uint64{nil}}, {Worlds: 1, Rel: [][]uint64{nil, nil}}, {Worlds: 1, Rel: [][]uint64{{0}}}, {Worlds: 1, Rel: [][]uint64{{1}}},
		{Worlds: 1, Rel: [][]uint64{{1}, {0}}}, {Worlds: 1, Rel: [][]uint64{{0}, {1}}}, {Worlds: 1, Rel: [][]uint64{{0, 1}}}, {Worlds: 1, Rel: [][]uint64{{0, 1}, {}}},
		{Worlds: 2, Rel: [][]uint64{{0, 1}}}, {Worlds: 2, Val: []uint64{0}, Rel: [][]uint64{{0, 1}}}, {Worlds: 2, Val: []uint64{0}, Rel: [][]uint64{{0, 3}}},
		example(),
	}
	for i, a := range l {
		for j, b := range l {
			if model.Same(a, b) != (i == j) || model.Same(a, clone(b)) != (i == j) {
				t.Errorf("Same(%v, %v) is %t", a, b, model.Same(a, b))
			}
		}
	}
	for _, c := range [][2]api.Model{
		{{Worlds: 1}, {Worlds: 1, Val: []uint64{}, Rel: [][]uint64{}}},
		{{Worlds: 1, Rel: [][]uint64{nil}}, {Worlds: 1, Rel: [][]uint64{{}}}},
		{{}, {Val: make([]uint64, 0, 5)}},
	} {
		if !model.Same(c[0], c[1]) || !model.Same(c[1], c[0]) {
			t.Errorf("an empty list and nil differ: %v, %v", c[0], c[1])
		}
	}
}

// TestFacts is part of P13.2.
func TestFacts(t *testing.T) {
	for _, m := range samples() {
		for w := range m.Worlds {
			want := 0
			for i := range m.Val {
				if has(m.Val[i], w) {
					want |= 1 << i
				}
			}
			if got := model.Facts(m, w); got != want {
				t.Errorf("Facts(%v, %d) is %d", m, w, got)
			}
		}
		for _, w := range []int{-1, m.Worlds, 64, 65, math.MinInt, math.MaxInt} {
			if got := model.Facts(m, w); got != -1 {
				t.Errorf("Facts(%v, %d) is %d", m, w, got)
			}
		}
	}
	each(func(m api.Model, _ int) {
		for _, w := range []int{-1, 0, 1, 64, math.MinInt, math.MaxInt} {
			if got := model.Facts(m, w); got != -1 {
				t.Errorf("Facts(%v, %d) is %d", m, w, got)
			}
		}
	})
}

// TestGroups is P13.4: by pairs of worlds, for all groups.
func TestGroups(t *testing.T) {
	for _, m := range samples() {
		for group := 1; group < 1<<len(m.Rel); group++ {
			union, meet := model.Group(m, group), model.Meet(m, group)
			if len(union) != m.Worlds || len(meet) != m.Worlds {
				t.Fatalf("%v, %d: %d and %d elements", m, group, len(union), len(meet))
			}
			for w := range m.Worlds {
				for v := range 64 {
					some, every := false, true
					for a := range m.Rel {
						if group>>a&1 == 1 {
							some = some || has(m.Rel[a][w], v)
							every = every && has(m.Rel[a][w], v)
						}
					}
					if has(union[w], v) != some || has(meet[w], v) != every {
						t.Fatalf("%v, %d: Group %x, Meet %x", m, group, union, meet)
					}
				}
			}
		}
		for _, group := range []int{0, -1, 1 << len(m.Rel), 1<<len(m.Rel) | 1, 16, 1 << 62, math.MinInt, math.MaxInt} {
			if union, meet := model.Group(m, group), model.Meet(m, group); len(union) != 0 || len(meet) != 0 {
				t.Errorf("%v, %d: Group %x, Meet %x", m, group, union, meet)
			}
		}
	}
	each(func(m api.Model, _ int) {
		for _, group := range []int{-1, 0, 1, 2, 3, 15, 31, math.MaxInt, math.MinInt} {
			if union, meet := model.Group(m, group), model.Meet(m, group); len(union) != 0 || len(meet) != 0 {
				t.Errorf("%v, %d: Group %x, Meet %x", m, group, union, meet)
			}
		}
	})
}
