package partition

import (
	"math"
	"slices"
	"testing"

	"witting/api"
)

// joined repeats to merge blocks that share a point, until none do.
func joined(a, b []int) []int {
	p := slices.Clone(a)
	for changed := true; changed; {
		changed = false
		for i := range p {
			for j := range p {
				if (p[i] == p[j] || b[i] == b[j]) && p[i] != p[j] {
					low, high := min(p[i], p[j]), max(p[i], p[j])
					for k := range p {
						if p[k] == high {
							p[k] = low
						}
					}
					changed = true
				}
			}
		}
	}
	return p
}

// groups returns lists of partitions of the same points.
func groups() [][][]int {
	var l [][][]int
	for n := range 6 {
		l = append(l, partitions(n))
	}
	for _, n := range []int{20, 63, 64} {
		l = append(l, large(n))
	}
	return l
}

// TestMeetAndJoin is part of P3.1: against the definitions.
func TestMeetAndJoin(t *testing.T) {
	for _, group := range groups() {
		for _, a := range group {
			for _, b := range group {
				meet, e := Meet(a, b)
				join, f := Join(a, b)
				if e != api.OK || f != api.OK || len(meet) != len(a) || Check(meet) != api.OK {
					t.Fatalf("%v, %v: Meet %v, %d, Join %v, %d", a, b, meet, e, join, f)
				}
				for i := range a {
					for j := range a {
						if (meet[i] == meet[j]) != (a[i] == a[j] && b[i] == b[j]) {
							t.Fatalf("Meet(%v, %v) is %v", a, b, meet)
						}
					}
				}
				if !slices.Equal(join, joined(a, b)) {
					t.Fatalf("Join(%v, %v) is %v", a, b, join)
				}
			}
		}
	}
}

// TestLeastJoin is part of P3.1 and P3.2: Join is refined by both, and refines each partition that both refine; Meet likewise.
func TestLeastJoin(t *testing.T) {
	for n := range 5 {
		all := partitions(n)
		for _, a := range all {
			for _, b := range all {
				meet, _ := Meet(a, b)
				join, _ := Join(a, b)
				for _, c := range all {
					if Refines(c, meet) != (Refines(c, a) && Refines(c, b)) || Refines(join, c) != (Refines(a, c) && Refines(b, c)) {
						t.Fatalf("%v, %v: Meet %v, Join %v, and %v", a, b, meet, join, c)
					}
				}
			}
		}
	}
}

// TestLattice is part of P3.2.
func TestLattice(t *testing.T) {
	both := func(f func(a, b []int) ([]int, int), a, b []int) []int {
		p, e := f(a, b)
		if e != api.OK {
			t.Fatalf("%v, %v: error %d", a, b, e)
		}
		return p
	}
	for _, group := range groups()[:5] {
		for _, a := range group {
			for _, b := range group {
				meet, join := both(Meet, a, b), both(Join, a, b)
				if !slices.Equal(meet, both(Meet, b, a)) || !slices.Equal(join, both(Join, b, a)) {
					t.Fatalf("%v, %v: not commutative", a, b)
				}
				if !slices.Equal(both(Meet, a, join), a) || !slices.Equal(both(Join, a, meet), a) {
					t.Fatalf("%v, %v: no absorption", a, b)
				}
				if Refines(a, b) != slices.Equal(meet, a) || Refines(a, b) != slices.Equal(join, b) {
					t.Fatalf("%v, %v: Refines is %t, Meet %v, Join %v", a, b, Refines(a, b), meet, join)
				}
				for _, c := range group {
					if !slices.Equal(both(Meet, meet, c), both(Meet, a, both(Meet, b, c))) || !slices.Equal(both(Join, join, c), both(Join, a, both(Join, b, c))) {
						t.Fatalf("%v, %v, %v: not associative", a, b, c)
					}
				}
			}
			if !slices.Equal(both(Meet, a, a), a) || !slices.Equal(both(Join, a, a), a) {
				t.Fatalf("%v: not idempotent", a)
			}
		}
	}
}

// TestRefines is part of P3.1: against the definition.
func TestRefines(t *testing.T) {
	for _, group := range groups() {
		for _, a := range group {
			for _, b := range group {
				want := true
				for i := range a {
					for j := range a {
						want = want && (a[i] != a[j] || b[i] == b[j])
					}
				}
				if Refines(a, b) != want {
					t.Fatalf("Refines(%v, %v) is %t", a, b, !want)
				}
			}
		}
	}
}

// TestSplit is part of P3.1: against the definition, with keys of any kind.
func TestSplit(t *testing.T) {
	extreme := func(key int) int { return [...]int{math.MinInt, math.MaxInt, -1}[key] }
	for n := range 5 {
		for _, p := range partitions(n) {
			for _, keys := range lists(n, 0, 2) {
				far := slices.Clone(keys)
				for i := range far {
					far[i] = extreme(keys[i])
				}
				q, e := Split(p, keys)
				r, f := Split(p, far)
				if e != api.OK || f != api.OK || len(q) != n || Check(q) != api.OK || !slices.Equal(q, r) {
					t.Fatalf("Split(%v, %v) is %v, %d, and %v, %d", p, keys, q, e, r, f)
				}
				for i := range p {
					for j := range p {
						if (q[i] == q[j]) != (p[i] == p[j] && keys[i] == keys[j]) {
							t.Fatalf("Split(%v, %v) is %v", p, keys, q)
						}
					}
				}
			}
		}
	}
	for _, p := range large(64) {
		for _, keys := range large(64) {
			q, e := Split(p, keys)
			if meet, _ := Meet(p, keys); e != api.OK || !slices.Equal(q, meet) {
				t.Errorf("Split(%v, %v) is %v, %d", p, keys, q, e)
			}
		}
	}
}

// TestLatticeErrors is part of P3.1: the error of the first list comes first, then that of the second, then the lengths.
func TestLatticeErrors(t *testing.T) {
	bad, long, good, other := []int{0, 2}, make([]int, 65), []int{0, 0}, []int{0, 0, 2}
	for _, c := range []struct {
		a, b []int
		e    int
	}{
		{bad, long, api.ErrForm},
		{long, bad, api.ErrLimit},
		{long, other, api.ErrLimit},
		{good, long, api.ErrLimit},
		{good, bad, api.ErrForm},
		{other, long, api.ErrLimit},
		{bad, good, api.ErrForm},
		{good, other, api.ErrForm},
		{other, good, api.ErrForm},
		{nil, good, api.ErrForm},
		{good, nil, api.ErrForm},
	} {
		if p, e := Meet(c.a, c.b); e != c.e || len(p) != 0 {
			t.Errorf("Meet(%v, %v) is %v, %d", c.a, c.b, p, e)
		}
		if p, e := Join(c.a, c.b); e != c.e || len(p) != 0 {
			t.Errorf("Join(%v, %v) is %v, %d", c.a, c.b, p, e)
		}
		if Refines(c.a, c.b) {
			t.Errorf("Refines(%v, %v)", c.a, c.b)
		}
	}
	for _, l := range malformed() {
		for _, p := range l {
			if Refines(p, p) {
				t.Errorf("Refines(%v) of itself", p)
			}
		}
	}
}

// TestSplitErrors is part of P3.1.
func TestSplitErrors(t *testing.T) {
	for want, l := range malformed() {
		for _, p := range l {
			for _, keys := range [][]int{nil, {1}, make([]int, len(p))} {
				if q, e := Split(p, keys); e != want || len(q) != 0 {
					t.Errorf("Split(%v, %v) is %v, %d", p, keys, q, e)
				}
			}
		}
	}
	for _, c := range []struct{ p, keys []int }{
		{nil, []int{0}}, {[]int{0}, nil}, {[]int{0, 0}, []int{1}}, {[]int{0, 0}, []int{1, 1, 1}}, {make([]int, 64), make([]int, 65)},
	} {
		if q, e := Split(c.p, c.keys); e != api.ErrForm || len(q) != 0 {
			t.Errorf("Split(%v, %v) is %v, %d", c.p, c.keys, q, e)
		}
	}
}

// spare returns a copy of a list with spare capacity that is filled with a mark.
func spare(p []int) []int {
	long := slices.Concat(p, []int{-9, -9, -9})
	return long[:len(p)]
}

// unchanged reports whether a list from spare is as it was.
func unchanged(now, before []int) bool {
	return slices.Equal(now[:len(before)+3], append(slices.Clone(before), -9, -9, -9))
}

// TestUnchangedArguments is part of P3.1: arguments stay as they are, and results are new memory.
func TestUnchangedArguments(t *testing.T) {
	for _, a := range [][]int{{0, 0, 0, 3}, {0, 1, 2, 3}, {0, 0, 0, 0}} {
		for _, b := range [][]int{{0, 1, 0, 1}, {0, 1, 2, 3}, {0, 0, 2, 2}, {1, 0, 0, 0}} {
			p, q := spare(a), spare(b)
			var results [][]int
			for _, f := range []func(a, b []int) ([]int, int){Meet, Join, Split} {
				r, _ := f(p, q)
				results = append(results, r)
			}
			Check(p)
			Blocks(p)
			Block(p, 1)
			Count(p)
			Refines(p, q)
			Relation(p)
			if !unchanged(p, a) || !unchanged(q, b) {
				t.Errorf("%v, %v became %v, %v", a, b, p[:7], q[:7])
			}
			for _, r := range results {
				for i := range r {
					r[i] = -7
				}
				_ = append(r, -7)
			}
			if !unchanged(p, a) || !unchanged(q, b) {
				t.Errorf("a result shares memory with %v or %v", a, b)
			}
		}
	}
	r := append([]uint64{3, 3, 4}, 99)[:3]
	if p, e := Of(r); e != api.OK || !slices.Equal(p, []int{0, 0, 2}) || !slices.Equal(r[:4], []uint64{3, 3, 4, 99}) {
		t.Error("Of", p, e, r[:4])
	}
}

// TestResultsAreNew is part of P3.1: what is done to a result does not show in later ones.
func TestResultsAreNew(t *testing.T) {
	for _, f := range []func(int) ([]int, int){Discrete, Trivial} {
		for _, n := range []int{0, 5, 64} {
			p, _ := f(n)
			want := slices.Clone(p)
			for i := range p {
				p[i] = -7
			}
			for i := range p[:cap(p)] {
				p[:cap(p)][i] = -7
			}
			if q, e := f(n); e != api.OK || !slices.Equal(q, want) {
				t.Errorf("%d points: %v, %d", n, q, e)
			}
			if q, e := f(64); e != api.OK || q[63] < 0 || q[5] < 0 {
				t.Errorf("after %d points: %v, %d", n, q, e)
			}
		}
	}
	a := []int{0, 0, 2}
	r, s := Relation(a), Blocks(a)
	r[0], s[0] = 0, 0
	if !slices.Equal(Relation(a), []uint64{3, 3, 4}) || !slices.Equal(Blocks(a), []uint64{3, 4}) {
		t.Error("Relation or Blocks kept a result")
	}
}
