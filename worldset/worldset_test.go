package worldset

import (
	"math"
	"slices"
	"testing"

	"witting/api"
)

// full is a variable so that shifts drop its upper bits, as those of computed sets.
var full uint64 = math.MaxUint64

// odd contains numbers that are no worlds and no sizes of a set.
var odd = []int{math.MinInt, math.MinInt + 1, -65, -64, -1, 65, 128, math.MaxInt - 1, math.MaxInt}

// samples returns sets of all kinds: small ones, single worlds, blocks, and some without a pattern.
func samples() []uint64 {
	l := []uint64{}
	for s := range uint64(300) {
		l = append(l, s, s<<56, s<<27)
	}
	for n := range 65 {
		l = append(l, uint64(1)<<n, uint64(1)<<n-1, full<<n)
	}
	x := uint64(88172645463325252)
	for range 300 {
		x ^= x << 13
		x ^= x >> 7
		x ^= x << 17
		l = append(l, x)
	}
	return l
}

// TestAll is part of P1.1.
func TestAll(t *testing.T) {
	for n := 0; n <= 64; n++ {
		s := All(n)
		for w := range 64 {
			if Has(s, w) != (w < n) {
				t.Errorf("All(%d) is %x", n, s)
			}
		}
	}
	for _, n := range odd {
		if s := All(n); s != 0 {
			t.Errorf("All(%d) is %x", n, s)
		}
	}
	if All(3) != 7 || All(64) != full {
		t.Error("All(3), All(64):", All(3), All(64))
	}
}

// TestOf is part of P1.1.
func TestOf(t *testing.T) {
	for _, c := range []struct {
		l    []int
		want uint64
		e    int
	}{
		{nil, 0, api.OK},
		{[]int{}, 0, api.OK},
		{[]int{5, 0}, 33, api.OK},
		{[]int{0, 5}, 33, api.OK},
		{[]int{63}, 1 << 63, api.OK},
		{[]int{64}, 0, api.ErrRange},
		{[]int{-1}, 0, api.ErrRange},
		{[]int{0, 0}, 0, api.ErrExist},
		{[]int{63, 1, 63}, 0, api.ErrExist},
		{[]int{1, 64, 1}, 0, api.ErrRange},
		{[]int{1, 1, 64}, 0, api.ErrExist},
		{[]int{64, 64}, 0, api.ErrRange},
	} {
		if s, e := Of(c.l); s != c.want || e != c.e {
			t.Errorf("Of(%v) is %x, %d", c.l, s, e)
		}
	}
	for _, w := range odd {
		if s, e := Of([]int{2, w}); s != 0 || e != api.ErrRange {
			t.Errorf("Of(2, %d) is %x, %d", w, s, e)
		}
	}
}

// TestMembers is part of P1.1: Members, Count, Lowest and Has against the bits themselves.
func TestMembers(t *testing.T) {
	for _, s := range samples() {
		want := []int{}
		for w := range 64 {
			in := s>>w&1 == 1
			if in {
				want = append(want, w)
			}
			if Has(s, w) != in {
				t.Errorf("Has(%x, %d)", s, w)
			}
		}
		lowest := -1
		if len(want) > 0 {
			lowest = want[0]
		}
		if l := Members(s); !slices.Equal(l, want) || Count(s) != len(want) || Lowest(s) != lowest {
			t.Errorf("%x: Members %v, Count %d, Lowest %d", s, l, Count(s), Lowest(s))
		}
	}
	if !slices.Equal(Members(33), []int{0, 5}) || Lowest(40) != 3 || Lowest(0) != -1 {
		t.Error("examples:", Members(33), Lowest(40), Lowest(0))
	}
	for _, w := range append(odd, 64) {
		if Has(full, w) {
			t.Errorf("Has(all, %d)", w)
		}
	}
}

// TestRename is P1.2.
func TestRename(t *testing.T) {
	high := make([]int, 64)
	high[63] = 63
	for _, c := range []struct {
		s    uint64
		to   []int
		want uint64
		e    int
	}{
		{0, nil, 0, api.OK},
		{0, []int{64, -1}, 0, api.OK},
		{33, []int{2, 0, 0, 0, 0, 4}, 20, api.OK},
		{7, []int{9, 9, 9}, 1 << 9, api.OK},
		{15, []int{9, 9, 1, 1}, 1<<9 | 2, api.OK},
		{1 << 63, high, 1 << 63, api.OK},
		{full, high, 1<<63 | 1, api.OK},
		// elements for worlds that are not in the set do not count
		{2, []int{-5, 0, 64}, 1, api.OK},
		{1, nil, 0, api.ErrNone},
		{33, []int{2, 0, 0, 0, 0}, 0, api.ErrNone},
		{1 << 63, high[:63], 0, api.ErrNone},
		{3, []int{0, 64}, 0, api.ErrRange},
		{3, []int{0, -1}, 0, api.ErrRange},
		// the lowest world with an error decides
		{7, []int{0, 64}, 0, api.ErrRange},
		{7, []int{-1, 64}, 0, api.ErrRange},
		{6, []int{64}, 0, api.ErrNone},
	} {
		if s, e := Rename(c.s, c.to); s != c.want || e != c.e {
			t.Errorf("Rename(%x, %v) is %x, %d", c.s, c.to, s, e)
		}
	}
	for _, w := range odd {
		if s, e := Rename(3, []int{1, w}); s != 0 || e != api.ErrRange {
			t.Errorf("Rename to %d is %x, %d", w, s, e)
		}
	}
}

// TestUnchangedArguments is P1.5: neither elements nor spare capacity of an argument change, and results are new.
func TestUnchangedArguments(t *testing.T) {
	memory := []int{5, 0, 3, 7, 7, 9}
	before := slices.Clone(memory)
	Of(memory[:3])
	Of(memory)
	Rename(7, memory[:3])
	Rename(15, memory[:3])
	if !slices.Equal(memory, before) {
		t.Error("an argument was changed:", memory)
	}
	first := Members(33)
	second := Members(33)
	first[0] = 9
	_ = append(first, 8)
	if !slices.Equal(second, []int{0, 5}) || !slices.Equal(Members(33), []int{0, 5}) {
		t.Error("two results share memory:", second)
	}
}

// TestInverse is part of P1.6: Of and Members.
func TestInverse(t *testing.T) {
	for _, s := range samples() {
		if again, e := Of(Members(s)); again != s || e != api.OK {
			t.Errorf("Of(Members(%x)) is %x, %d", s, again, e)
		}
	}
	for _, l := range [][]int{{}, {3}, {0, 63}, {1, 2, 40, 41}} {
		if s, _ := Of(l); !slices.Equal(Members(s), l) {
			t.Errorf("Members(Of(%v)) is %v", l, Members(s))
		}
	}
}

// TestRenameBack is part of P1.6: a permutation keeps the number of worlds, and its inverse undoes it.
func TestRenameBack(t *testing.T) {
	for _, factor := range []int{1, 3, 5, 27, 63} {
		to, back := make([]int, 64), make([]int, 64)
		for w := range to {
			to[w] = (w*factor + 11) % 64
			back[to[w]] = w
		}
		for _, s := range samples() {
			renamed, e := Rename(s, to)
			if e != api.OK || Count(renamed) != Count(s) {
				t.Errorf("factor %d: %x is renamed %x, %d", factor, s, renamed, e)
			}
			if again, e := Rename(renamed, back); again != s || e != api.OK {
				t.Errorf("factor %d: %x comes back as %x, %d", factor, s, again, e)
			}
		}
	}
}

// TestArgumentsOfAnyForm is P1 of DOC.md: a panic or a loop without end would fail it.
func TestArgumentsOfAnyForm(t *testing.T) {
	numbers := append(odd, 0, 1, 63, 64)
	for _, s := range []uint64{0, 1, 1 << 63, full, full << 1, 0x5555555555555555} {
		Members(s)
		Count(s)
		Lowest(s)
		Format(s)
		Rename(s, nil)
		Rename(s, numbers)
		Rename(s, make([]int, 1000))
		for _, n := range numbers {
			All(n)
			Has(s, n)
			Next(n, s)
			Subset(s, n)
			for _, k := range numbers {
				First(n, k)
			}
		}
	}
	Of(numbers)
	Of(make([]int, 1000))
}
