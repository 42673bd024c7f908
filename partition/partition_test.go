package partition

import (
	"math"
	"math/bits"
	"slices"
	"testing"

	"witting/api"
)

var full uint64 = math.MaxUint64

// lists returns all lists of n numbers from low to high.
func lists(n, low, high int) [][]int {
	all := [][]int{nil}
	for range n {
		var longer [][]int
		for _, l := range all {
			for v := low; v <= high; v++ {
				longer = append(longer, append(slices.Clone(l), v))
			}
		}
		all = longer
	}
	return all
}

// partitions returns all partitions of n points: a point is a block of its own, or joins the block of a lower one.
func partitions(n int) [][]int {
	all := [][]int{nil}
	for i := range n {
		var longer [][]int
		for _, p := range all {
			longer = append(longer, append(slices.Clone(p), i))
			for j, lowest := range p {
				if j == lowest {
					longer = append(longer, append(slices.Clone(p), j))
				}
			}
		}
		all = longer
	}
	return all
}

// byKeys returns the partition in which points with equal keys are together.
func byKeys(keys []int) []int {
	p := make([]int, len(keys))
	for i, key := range keys {
		p[i] = slices.Index(keys, key)
	}
	return p
}

// large returns partitions of n points, for many points.
func large(n int) [][]int {
	var l [][]int
	for _, f := range []func(i int) int{
		func(i int) int { return 0 },
		func(i int) int { return i },
		func(i int) int { return i % 2 },
		func(i int) int { return i % 7 },
		func(i int) int { return i / 2 },
		func(i int) int { return i / 5 },
		func(i int) int { return (i + 1) / 2 },
		func(i int) int { return min(i, n-1-i) },
		func(i int) int { return bits.OnesCount(uint(i)) },
		func(i int) int { return i * i % 11 },
		func(i int) int { return min(i, 1) },
		func(i int) int { return min(i+2-n, 0) },
	} {
		keys := make([]int, n)
		for i := range keys {
			keys[i] = f(i)
		}
		l = append(l, byKeys(keys))
	}
	return l
}

// samples returns partitions of few and of many points.
func samples() [][]int {
	var l [][]int
	for n := range 6 {
		l = append(l, partitions(n)...)
	}
	for _, n := range []int{20, 63, 64} {
		l = append(l, large(n)...)
	}
	return l
}

// malformed returns lists that are no partitions, by their errors.
func malformed() map[int][][]int {
	late := byKeys(make([]int, 64))
	late[63] = 64
	link := byKeys(make([]int, 64))
	link[63] = 62
	return map[int][][]int{
		api.ErrForm: {
			{-1}, {1}, {math.MinInt}, {math.MaxInt}, {64}, {0, 2}, {0, -1}, {0, 0, 1}, {0, 0, 3}, {1, 1}, {1, 0},
			{0, 1, 1, 2}, {0, 1, math.MinInt}, {0, 1, math.MaxInt}, {2, 2, 2}, late, link,
		},
		api.ErrLimit: {make([]int, 65), slices.Repeat([]int{-1}, 65), make([]int, 1000)},
	}
}

func isPartition(p []int) bool {
	for i := range p {
		if p[i] < 0 || p[i] > i {
			return false
		}
	}
	for i := range p {
		if p[p[i]] != p[i] {
			return false
		}
	}
	return true
}

// TestCheck is part of P3.1: against the definition, for all short lists, and with the errors in their order.
func TestCheck(t *testing.T) {
	for n := range 6 {
		for _, p := range lists(n, -1, 5) {
			want := api.OK
			if !isPartition(p) {
				want = api.ErrForm
			}
			if e := Check(p); e != want {
				t.Fatalf("Check(%v) is %d", p, e)
			}
		}
	}
	for _, p := range samples() {
		if e := Check(p); e != api.OK {
			t.Errorf("Check(%v) is %d", p, e)
		}
	}
	for want, l := range malformed() {
		for _, p := range l {
			if e := Check(p); e != want {
				t.Errorf("Check(%v) is %d, not %d", p, e, want)
			}
		}
	}
}

// TestDiscreteAndTrivial is part of P3.1.
func TestDiscreteAndTrivial(t *testing.T) {
	for n := range 65 {
		p, e := Discrete(n)
		q, f := Trivial(n)
		if e != api.OK || f != api.OK || len(p) != n || len(q) != n {
			t.Fatalf("%d points: %v, %d and %v, %d", n, p, e, q, f)
		}
		for i := range n {
			if p[i] != i || q[i] != 0 {
				t.Errorf("point %d of %d: %d, %d", i, n, p[i], q[i])
			}
		}
		if Count(p) != n || Count(q) != min(n, 1) {
			t.Errorf("%d points: %d and %d blocks", n, Count(p), Count(q))
		}
	}
	for _, n := range []int{math.MinInt, -65, -1, 65, 66, 1 << 40, math.MaxInt} {
		if p, e := Discrete(n); e != api.ErrLimit || len(p) != 0 {
			t.Errorf("Discrete(%d) is %v, %d", n, p, e)
		}
		if p, e := Trivial(n); e != api.ErrLimit || len(p) != 0 {
			t.Errorf("Trivial(%d) is %v, %d", n, p, e)
		}
	}
}

// together returns the points that are in the block of a point.
func together(p []int, i int) uint64 {
	var s uint64
	for j := range p {
		if p[j] == p[i] {
			s |= 1 << j
		}
	}
	return s
}

// TestBlocks is part of P3.1: the blocks, single ones and the relation, against the definition.
func TestBlocks(t *testing.T) {
	for _, p := range samples() {
		var blocks, relation []uint64
		for i := range p {
			relation = append(relation, together(p, i))
			if !slices.Contains(p[:i], p[i]) {
				blocks = append(blocks, together(p, i))
			}
			if b := Block(p, i); b != together(p, i) {
				t.Errorf("Block(%v, %d) is %x", p, i, b)
			}
		}
		if b := Blocks(p); !slices.Equal(b, blocks) || Count(p) != len(blocks) {
			t.Errorf("%v has the %d blocks %x", p, Count(p), b)
		}
		if r := Relation(p); !slices.Equal(r, relation) {
			t.Errorf("Relation(%v) is %x", p, r)
		}
		for _, i := range []int{math.MinInt, -64, -1, len(p), len(p) + 1, 64, 1 << 40, math.MaxInt} {
			if b := Block(p, i); b != 0 {
				t.Errorf("Block(%v, %d) is %x", p, i, b)
			}
		}
	}
}

// TestNoBlocks is part of P3.1: lists that are no partitions have no blocks.
func TestNoBlocks(t *testing.T) {
	for _, l := range malformed() {
		for _, p := range l {
			if len(Blocks(p)) != 0 || Count(p) != 0 || len(Relation(p)) != 0 {
				t.Errorf("%v has %d blocks, %x, and the relation %x", p, Count(p), Blocks(p), Relation(p))
			}
			for _, i := range []int{math.MinInt, -1, 0, 1, 63, 64, math.MaxInt} {
				if b := Block(p, i); b != 0 {
					t.Errorf("Block(%v, %d) is %x", p, i, b)
				}
			}
		}
	}
}

// TestCover is part of P3.2: the blocks are disjoint and cover all points, and Of restores a partition from its relation.
func TestCover(t *testing.T) {
	for _, p := range samples() {
		var covered uint64
		for _, b := range Blocks(p) {
			if b == 0 || covered&b != 0 {
				t.Errorf("the blocks of %v are empty or overlap: %x", p, Blocks(p))
			}
			covered |= b
		}
		if covered != ^(full << len(p)) {
			t.Errorf("the blocks of %v cover %x", p, covered)
		}
		if q, e := Of(Relation(p)); e != api.OK || !slices.Equal(q, p) {
			t.Errorf("%v is restored as %v, %d", p, q, e)
		}
	}
}

func isEquivalence(r []uint64) bool {
	has := func(i, j int) bool { return r[i]>>j&1 == 1 }
	for i := range r {
		if !has(i, i) {
			return false
		}
		for j := range r {
			for k := range r {
				if has(i, j) && !has(j, i) || has(i, j) && has(j, k) && !has(i, k) {
					return false
				}
			}
		}
	}
	return true
}

// relations returns all lists of n sets of points below m.
func relations(n, m int) [][]uint64 {
	var all [][]uint64
	for _, l := range lists(n, 0, 1<<m-1) {
		var r []uint64
		for _, s := range l {
			r = append(r, uint64(s))
		}
		all = append(all, r)
	}
	return all
}

// TestOf is part of P3.1: all relations of up to three points, also with points that do not exist, and all symmetric ones of five.
func TestOf(t *testing.T) {
	var all [][]uint64
	for n := range 4 {
		all = append(all, relations(n, n+1)...)
	}
	for pairs := range 1 << 10 {
		r, bit := []uint64{1, 2, 4, 8, 16}, 0
		for i := range 5 {
			for j := range i {
				r[i] |= uint64(pairs>>bit&1) << j
				r[j] |= uint64(pairs>>bit&1) << i
				bit++
			}
		}
		all = append(all, r)
	}
	for _, r := range all {
		want := api.OK
		if slices.ContainsFunc(r, func(s uint64) bool { return s>>len(r) != 0 }) {
			want = api.ErrForm
		} else if !isEquivalence(r) {
			want = api.ErrLogic
		}
		p, e := Of(r)
		if e != want || e != api.OK && len(p) != 0 || e == api.OK && !slices.Equal(Relation(p), r) {
			t.Fatalf("Of(%x) is %v, %d", r, p, e)
		}
	}
}

// TestOfErrors is part of P3.1: the errors in their order.
func TestOfErrors(t *testing.T) {
	almost := slices.Repeat([]uint64{full}, 64)
	almost[63] = full >> 1
	missing := slices.Repeat([]uint64{full}, 64)
	missing[40] = 0
	for _, c := range []struct {
		r []uint64
		e int
	}{
		{make([]uint64, 65), api.ErrLimit},
		{slices.Repeat([]uint64{full}, 65), api.ErrLimit},
		{[]uint64{2}, api.ErrForm},
		{[]uint64{0, 4}, api.ErrForm},
		{[]uint64{1, 1, 8}, api.ErrForm},
		{[]uint64{1, 1 << 63}, api.ErrForm},
		{append(make([]uint64, 62), 1<<63), api.ErrForm},
		{[]uint64{0}, api.ErrLogic},
		{[]uint64{1, 3}, api.ErrLogic},
		{[]uint64{3, 2}, api.ErrLogic},
		{[]uint64{2, 1}, api.ErrLogic},
		{[]uint64{3, 7, 6}, api.ErrLogic},
		{make([]uint64, 64), api.ErrLogic},
		{almost, api.ErrLogic},
		{missing, api.ErrLogic},
	} {
		if p, e := Of(c.r); e != c.e || len(p) != 0 {
			t.Errorf("Of(%x) is %v, %d, not %d", c.r, p, e, c.e)
		}
	}
}

// TestExamples is part of P3.1.
func TestExamples(t *testing.T) {
	if b := Blocks([]int{0, 1, 0, 3}); !slices.Equal(b, []uint64{5, 2, 8}) {
		t.Errorf("the blocks are %x", b)
	}
	if e := Check([]int{0, 0, 1}); e != api.ErrForm {
		t.Error("the companion of point 2 is not the lowest one:", e)
	}
	a, b := []int{0, 0, 0, 3}, []int{0, 1, 0, 1}
	if p, e := Meet(a, b); e != api.OK || !slices.Equal(p, []int{0, 1, 0, 3}) {
		t.Error("Meet", p, e)
	}
	if p, e := Join(a, b); e != api.OK || !slices.Equal(p, []int{0, 0, 0, 0}) {
		t.Error("Join", p, e)
	}
	if p, e := Split(a, []int{5, 7, 5, 5}); e != api.OK || !slices.Equal(p, []int{0, 1, 0, 3}) {
		t.Error("Split", p, e)
	}
}
