package quotient_test

import (
	"math"
	"math/rand/v2"
	"slices"
	"testing"

	"witting/api"
	"witting/checker"
	"witting/formula"
	"witting/isomorph"
	"witting/model"
	"witting/quotient"
)

// TestExamples are the chapter's examples.
func TestExamples(t *testing.T) {
	m := example()
	two := api.Model{Worlds: 2, Val: []uint64{2}, Rel: [][]uint64{{2, 2}}}
	if q, l, e := quotient.Minimize(m); !model.Same(q, two) || !slices.Equal(l, []int{0, 0, 1, 1}) || e != api.OK {
		t.Error("Minimize:", q, l, e)
	}
	if q, w, e := quotient.Pointed(m, 3); q.Worlds != 1 || w != 0 || e != api.OK {
		t.Error("Pointed:", q, w, e)
	}
	if q, e := quotient.Canonical(m, 0); !model.Same(q, two) || e != api.OK {
		t.Error("Canonical:", q, e)
	}
	q, l, e := quotient.By(m, []int{0, 1, 2, 2})
	if want := (api.Model{Worlds: 3, Val: []uint64{4}, Rel: [][]uint64{{4, 4, 4}}}); !model.Same(q, want) || !slices.Equal(l, []int{0, 1, 2, 2}) || e != api.OK {
		t.Error("By:", q, l, e)
	}
	if q, l, e := quotient.By(m, []int{0, 0, 0, 3}); !isZero(q) || len(l) != 0 || e != api.ErrArg {
		t.Error("By of worlds that differ:", q, l, e)
	}
}

// TestDistributed is the chapter's example of distributed knowledge that the quotient does not keep.
func TestDistributed(t *testing.T) {
	m := api.Model{Worlds: 3, Rel: [][]uint64{{2, 0, 0}, {4, 0, 0}}}
	f := formula.Dist(3, formula.False())
	if holds, e := checker.At(m, 0, f); !holds || e != api.OK {
		t.Error("in the model:", holds, e)
	}
	q, l, e := quotient.Minimize(m)
	if want := (api.Model{Worlds: 2, Rel: [][]uint64{{2, 0}, {2, 0}}}); !model.Same(q, want) || !slices.Equal(l, []int{0, 1, 1}) || e != api.OK {
		t.Error("Minimize:", q, l, e)
	}
	if holds, e := checker.At(q, l[0], f); holds || e != api.OK {
		t.Error("in the quotient:", holds, e)
	}
}

// checkBy compares By with the chapter's definition.
func checkBy(t *testing.T, m api.Model, p []int) {
	t.Helper()
	q, l, e := quotient.By(m, p)
	if !respectsFacts(m, p) {
		if !isZero(q) || len(l) != 0 || e != api.ErrArg {
			t.Fatalf("By(%v, %v) is %v, %v, %d", m, p, q, l, e)
		}
		return
	}
	want, numbers := quotientOf(m, p)
	if !model.Same(q, want) || !slices.Equal(l, numbers) || e != api.OK {
		t.Fatalf("By(%v, %v) is %v, %v, %d, not %v, %v", m, p, q, l, e, want, numbers)
	}
	if e := model.Check(q); e != api.OK {
		t.Fatalf("By(%v, %v) is %v, which is not valid: %d", m, p, q, e)
	}
}

// TestBy is P20.1 for By: all partitions of all models of up to three worlds with a fact and an agent, and of random ones of four and five.
func TestBy(t *testing.T) {
	models := slices.Concat(small(1), small(2), small(3))
	r := rand.New(rand.NewPCG(20, 2))
	for range 100 {
		models = append(models, random(r, 4+r.IntN(2), r.IntN(3), r.IntN(5)))
	}
	for _, m := range models {
		for _, p := range partitions(m.Worlds) {
			checkBy(t, m, p)
		}
	}
}

// TestByLarge is P20.1 for By: random partitions of large models, most of which respect the facts.
func TestByLarge(t *testing.T) {
	r := rand.New(rand.NewPCG(20, 3))
	for _, m := range samples() {
		for range 5 {
			p := make([]int, m.Worlds)
			for w := range p {
				p[w] = w
				// A world joins the block of an earlier one with the same facts, and sometimes with other facts.
				for v := range w {
					if p[v] == v && r.IntN(4) == 0 && (agreeOnFacts(m, v, m, w) || r.IntN(500) == 0) {
						p[w] = v
						break
					}
				}
			}
			checkBy(t, m, p)
		}
		whole := make([]int, m.Worlds)
		checkBy(t, m, whole)
		for w := range whole {
			whole[w] = w
		}
		checkBy(t, m, whole)
	}
}

// TestByErrors is P20.1 for By: the errors in their order.
func TestByErrors(t *testing.T) {
	m := example()
	long := make([]int, 65)
	long[64] = 70
	for i, c := range []struct {
		p    []int
		want int
	}{
		{nil, api.ErrForm}, {[]int{}, api.ErrForm}, {[]int{0}, api.ErrForm}, {[]int{0, 1, 2}, api.ErrForm}, {[]int{0, 1, 2, 3, 4}, api.ErrForm}, {make([]int, 64), api.ErrForm},
		{[]int{0, 0, 1, 3}, api.ErrForm}, {[]int{1, 1, 2, 3}, api.ErrForm}, {[]int{0, 1, 2, 4}, api.ErrForm}, {[]int{0, 1, 2, -1}, api.ErrForm}, {[]int{-1, 0, 0, 0}, api.ErrForm},
		{[]int{0, 0, math.MinInt, 0}, api.ErrForm}, {[]int{0, 0, math.MaxInt, 0}, api.ErrForm},
		{make([]int, 65), api.ErrLimit}, {long, api.ErrLimit}, {make([]int, 100000), api.ErrLimit},
		{[]int{0, 0, 0, 0}, api.ErrArg}, {[]int{0, 0, 0, 3}, api.ErrArg}, {[]int{0, 1, 1, 3}, api.ErrArg}, {[]int{0, 1, 2, 0}, api.ErrArg},
		{[]int{0, 0, 2, 2}, api.OK}, {[]int{0, 1, 2, 3}, api.OK}, {[]int{0, 0, 2, 3}, api.OK},
	} {
		q, l, e := quotient.By(m, c.p)
		if e != c.want || isZero(q) != (e != api.OK) || (len(l) == 0) != (e != api.OK) {
			t.Errorf("case %d: %v, %v, %d, not %d", i, q, l, e, c.want)
		}
	}
	// A difference in the second of two facts only, and no facts.
	if _, _, e := quotient.By(api.Model{Worlds: 2, Val: []uint64{3, 2}}, []int{0, 0}); e != api.ErrArg {
		t.Error("By of worlds that differ in the second fact:", e)
	}
	if q, l, e := quotient.By(api.Model{Worlds: 2}, []int{0, 0}); q.Worlds != 1 || !slices.Equal(l, []int{0, 0}) || e != api.OK {
		t.Error("By without facts:", q, l, e)
	}
	each(func(m api.Model, want int) {
		for _, p := range [][]int{nil, {0}, {0, 0}, {0, 1}, {1}, {-1}, make([]int, 65), make([]int, 64)} {
			if q, l, e := quotient.By(m, p); !isZero(q) || len(l) != 0 || e != want {
				t.Errorf("By(%v, %v) is %v, %v, %d", m, p, q, l, e)
			}
		}
	})
}

// TestMinimize is P20.1 for Minimize.
func TestMinimize(t *testing.T) {
	smaller := 0
	for _, m := range slices.Concat(samples(), small(3)) {
		want, numbers := quotientOf(m, blocksOf(m))
		q, l, e := quotient.Minimize(m)
		if !model.Same(q, want) || !slices.Equal(l, numbers) || e != api.OK {
			t.Fatalf("Minimize(%v) is %v, %v, %d, not %v, %v", m, q, l, e, want, numbers)
		}
		if q.Worlds > 1 && q.Worlds < m.Worlds {
			smaller++
		}
	}
	if smaller < 100 {
		t.Error("quotients that are smaller:", smaller)
	}
	each(func(m api.Model, want int) {
		if q, l, e := quotient.Minimize(m); !isZero(q) || len(l) != 0 || e != want {
			t.Errorf("Minimize(%v) is %v, %v, %d", m, q, l, e)
		}
	})
}

// roots returns worlds of a model: all of them if there are few.
func roots(m api.Model) []int {
	l := []int{}
	for w := range m.Worlds {
		if m.Worlds < 33 || w%9 == 0 {
			l = append(l, w)
		}
	}
	return l
}

// TestPointed is P20.2: all worlds of small models, and some of large ones.
func TestPointed(t *testing.T) {
	moved := 0
	for _, m := range slices.Concat(samples(), small(3)) {
		for _, w := range roots(m) {
			want, place := pointed(m, w)
			q, number, e := quotient.Pointed(m, w)
			if !model.Same(q, want) || number != place || e != api.OK {
				t.Fatalf("Pointed(%v, %d) is %v, %d, %d, not %v, %d", m, w, q, number, e, want, place)
			}
			canonical, order, e := isomorph.Canonical(want, place)
			if e != api.OK {
				t.Fatalf("isomorph.Canonical(%v, %d): %d", want, place, e)
			}
			if c, e := quotient.Canonical(m, w); !model.Same(c, canonical) || e != api.OK {
				t.Fatalf("Canonical(%v, %d) is %v, %d, not %v", m, w, c, e, canonical)
			}
			if order[0] != 0 {
				moved++
			}
		}
	}
	if moved < 100 {
		t.Error("quotients whose world gets another number:", moved)
	}
}

// TestPointedByHand is P20.2: what cannot be reached is left out, the numbers follow the lowest worlds, and the canonical ones begin at the world.
func TestPointedByHand(t *testing.T) {
	// The worlds 1 and 4 lead to 2 and 3, which lead to 1; the world 0 leads to all.
	m := api.Model{Worlds: 5, Val: []uint64{12}, Rel: [][]uint64{{31, 12, 2, 2, 12}}}
	for _, c := range []struct {
		world, place int
		q, canonical api.Model
	}{
		{0, 0, api.Model{Worlds: 3, Val: []uint64{4}, Rel: [][]uint64{{7, 4, 2}}}, api.Model{Worlds: 3, Val: []uint64{4}, Rel: [][]uint64{{7, 4, 2}}}},
		{1, 0, api.Model{Worlds: 2, Val: []uint64{2}, Rel: [][]uint64{{2, 1}}}, api.Model{Worlds: 2, Val: []uint64{2}, Rel: [][]uint64{{2, 1}}}},
		{2, 1, api.Model{Worlds: 2, Val: []uint64{2}, Rel: [][]uint64{{2, 1}}}, api.Model{Worlds: 2, Val: []uint64{1}, Rel: [][]uint64{{2, 1}}}},
		{3, 1, api.Model{Worlds: 2, Val: []uint64{2}, Rel: [][]uint64{{2, 1}}}, api.Model{Worlds: 2, Val: []uint64{1}, Rel: [][]uint64{{2, 1}}}},
		{4, 0, api.Model{Worlds: 2, Val: []uint64{2}, Rel: [][]uint64{{2, 1}}}, api.Model{Worlds: 2, Val: []uint64{2}, Rel: [][]uint64{{2, 1}}}},
	} {
		if q, place, e := quotient.Pointed(m, c.world); !model.Same(q, c.q) || place != c.place || e != api.OK {
			t.Errorf("Pointed(.., %d) is %v, %d, %d", c.world, q, place, e)
		}
		if q, e := quotient.Canonical(m, c.world); !model.Same(q, c.canonical) || e != api.OK {
			t.Errorf("Canonical(.., %d) is %v, %d", c.world, q, e)
		}
	}
}

// TestPointedErrors is P20.2: the errors in their order.
func TestPointedErrors(t *testing.T) {
	for _, m := range []api.Model{example(), {Worlds: 1}, chain(63, 4), chain(64, 1)} {
		for _, w := range outside(m.Worlds) {
			if q, number, e := quotient.Pointed(m, w); !isZero(q) || number != 0 || e != api.ErrRange {
				t.Errorf("Pointed(%v, %d) is %v, %d, %d", m, w, q, number, e)
			}
			if q, e := quotient.Canonical(m, w); !isZero(q) || e != api.ErrRange {
				t.Errorf("Canonical(%v, %d) is %v, %d", m, w, q, e)
			}
		}
	}
	each(func(m api.Model, want int) {
		for _, w := range append(outside(1), 0) {
			if q, number, e := quotient.Pointed(m, w); !isZero(q) || number != 0 || e != want {
				t.Errorf("Pointed(%v, %d) is %v, %d, %d", m, w, q, number, e)
			}
			if q, e := quotient.Canonical(m, w); !isZero(q) || e != want {
				t.Errorf("Canonical(%v, %d) is %v, %d", m, w, q, e)
			}
		}
	})
}

// TestMinimal is P20.3 for Minimal.
func TestMinimal(t *testing.T) {
	count := map[bool]int{}
	for _, m := range slices.Concat(samples(), small(3)) {
		want := true
		for v, block := range bisimilar(m, m) {
			want = want && block == 1<<v
		}
		count[want]++
		if quotient.Minimal(m) != want {
			t.Errorf("Minimal(%v) is %t", m, !want)
		}
	}
	if count[true] < 100 || count[false] < 100 {
		t.Error("models by minimality:", count)
	}
	each(func(m api.Model, _ int) {
		if quotient.Minimal(m) {
			t.Errorf("Minimal(%v)", m)
		}
	})
}

// TestSame is P20.3 for Same: it is bisimilarity.
func TestSame(t *testing.T) {
	count := map[bool]int{}
	compare := func(a, b api.Model) {
		t.Helper()
		z := bisimilar(a, b)
		for _, v := range roots(a) {
			for _, w := range roots(b) {
				want := has(z[v], w)
				count[want]++
				if same, e := quotient.Same(a, v, b, w); same != want || e != api.OK {
					t.Fatalf("Same(%v, %d, %v, %d) is %t, %d", a, v, b, w, same, e)
				}
			}
		}
	}
	all := slices.Concat(small(1), small(2))
	for _, a := range all {
		for _, b := range all {
			compare(a, b)
		}
	}
	r := rand.New(rand.NewPCG(20, 4))
	for i := range 200 {
		m := random(r, 1+r.IntN(6), r.IntN(3), r.IntN(5))
		sizes := []int{1 + r.IntN(12), 1 + r.IntN(12)}
		if i%20 == 0 {
			sizes = []int{64, 60 + r.IntN(5)}
		}
		a, _ := inflated(r, m, sizes[0])
		b, _ := inflated(r, m, sizes[1])
		compare(a, b)
		compare(a, random(r, 1+r.IntN(6), len(m.Val), len(m.Rel)))
	}
	if count[true] < 1000 || count[false] < 1000 {
		t.Error("pairs by sameness:", count)
	}
	for _, c := range []struct {
		a    api.Model
		v    int
		b    api.Model
		w    int
		want bool
	}{
		{chain(64, 1), 1, chain(63, 1), 0, true}, {chain(64, 1), 0, chain(63, 1), 0, false}, {chain(64, 1), 63, chain(1, 1), 0, true},
		{circle(64, 0), 5, circle(1, 0), 0, true}, {circle(64, 1), 0, circle(63, 1), 0, false}, {circle(64, 1|1<<32), 33, circle(32, 1), 1, true},
	} {
		if same, e := quotient.Same(c.a, c.v, c.b, c.w); same != c.want || e != api.OK {
			t.Errorf("Same(%v, %d, %v, %d) is %t, %d", c.a, c.v, c.b, c.w, same, e)
		}
	}
}

// TestSameErrors is P20.3 for Same: the errors in their order.
func TestSameErrors(t *testing.T) {
	a, b := example(), api.Model{Worlds: 64, Val: []uint64{1}, Rel: [][]uint64{make([]uint64, 64)}}
	wants := func(a api.Model, v int, b api.Model, w, want int) {
		t.Helper()
		if same, e := quotient.Same(a, v, b, w); same || e != want {
			t.Errorf("Same(%v, %d, %v, %d) is %t, %d, not %d", a, v, b, w, same, e, want)
		}
	}
	for _, v := range outside(4) {
		wants(a, v, b, 0, api.ErrRange)
		wants(b, 0, a, v, api.ErrRange)
		wants(a, v, a, 3, api.ErrRange)
	}
	for _, w := range outside(64) {
		wants(a, 0, b, w, api.ErrRange)
		wants(b, w, a, 0, api.ErrRange)
		wants(a, w, b, w, api.ErrRange)
	}
	for _, c := range []api.Model{
		{Worlds: 4, Val: []uint64{12}}, {Worlds: 4, Rel: [][]uint64{{4, 8, 4, 8}}}, {Worlds: 1}, {Worlds: 64, Val: []uint64{0, 0}, Rel: [][]uint64{make([]uint64, 64)}},
		{Worlds: 4, Val: []uint64{12}, Rel: [][]uint64{{4, 8, 4, 8}, {4, 8, 4, 8}}},
	} {
		for _, w := range []int{0, -1, 64, math.MaxInt} {
			wants(a, w, c, -w, api.ErrArg)
			wants(c, w, a, -w, api.ErrArg)
		}
	}
	each(func(m api.Model, want int) {
		for _, w := range []int{0, -1, 64, math.MaxInt} {
			wants(m, w, a, -w, want)
			wants(a, w, m, -w, want)
			wants(m, w, api.Model{Worlds: 1}, -w, want)
			each(func(other api.Model, _ int) { wants(m, w, other, -w, want) })
		}
	})
}
