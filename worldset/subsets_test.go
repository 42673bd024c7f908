package worldset

import (
	"math/bits"
	"slices"
	"testing"

	"witting/api"
)

// TestFirst is part of P1.3.
func TestFirst(t *testing.T) {
	for n := 0; n <= 64; n++ {
		for k := 0; k <= n; k++ {
			if s, e := First(n, k); s != All(k) || e != api.OK {
				t.Errorf("First(%d, %d) is %x, %d", n, k, s, e)
			}
		}
		for _, k := range []int{-1, n + 1} {
			if s, e := First(n, k); s != 0 || e != api.ErrRange {
				t.Errorf("First(%d, %d) is %x, %d", n, k, s, e)
			}
		}
	}
	for _, n := range odd {
		for _, k := range []int{0, 1, n} {
			if s, e := First(n, k); s != 0 || e != api.ErrRange {
				t.Errorf("First(%d, %d) is %x, %d", n, k, s, e)
			}
		}
	}
	if s, e := First(4, 2); s != 3 || e != api.OK {
		t.Error("First(4, 2):", s, e)
	}
}

// TestNextSmall is part of P1.3: against a search for the next number with as many bits.
func TestNextSmall(t *testing.T) {
	for n := 0; n <= 9; n++ {
		for s := range uint64(1 << 10) {
			want, ok := uint64(0), false
			if s>>n == 0 {
				want, ok = search(n, s)
			}
			if next, found := Next(n, s); next != want || found != ok {
				t.Errorf("Next(%d, %x) is %x, %v", n, s, next, found)
			}
		}
	}
}

func search(n int, s uint64) (uint64, bool) {
	for next := s + 1; next < 1<<n; next++ {
		if bits.OnesCount64(next) == bits.OnesCount64(s) {
			return next, true
		}
	}
	return 0, false
}

// TestNextLarge is part of P1.3: sets at the upper end of the word.
func TestNextLarge(t *testing.T) {
	for _, c := range []struct {
		n    int
		s    uint64
		want uint64
		ok   bool
	}{
		{64, 1 << 62, 1 << 63, true},
		{63, 1 << 62, 0, false},
		{64, 1 << 63, 0, false},
		{64, full, 0, false},
		{64, full << 1, 0, false},
		{64, full >> 1, full>>1 - 1<<62 + 1<<63, true},
		{64, 3 << 61, 1<<63 | 1, true},
		{63, 3 << 61, 0, false},
		{64, 1<<63 | 1, 1<<63 | 2, true},
		{64, 1<<63 | 1<<61, 1<<63 | 1<<62, true},
		{64, 5 << 61, 3 << 62, true},
		{64, 3 << 62, 0, false},
		{64, 0, 0, false},
		{0, 0, 0, false},
		{0, 1, 0, false},
		{4, 16, 0, false},
		{4, 17, 0, false},
		{65, 1, 0, false},
		{-1, 1, 0, false},
	} {
		if next, ok := Next(c.n, c.s); next != c.want || ok != c.ok {
			t.Errorf("Next(%d, %x) is %x, %v", c.n, c.s, next, ok)
		}
	}
	for _, n := range odd {
		if next, ok := Next(n, 5); next != 0 || ok {
			t.Errorf("Next(%d, 5) is %x, %v", n, next, ok)
		}
	}
}

// TestSubset is part of P1.3: the bits of the index choose the worlds.
func TestSubset(t *testing.T) {
	for i, want := range []uint64{0, 8, 32, 40} {
		if s, ok := Subset(40, i); s != want || !ok {
			t.Errorf("Subset(40, %d) is %x, %v", i, s, ok)
		}
	}
	for _, s := range samples() {
		for _, i := range []int{0, 1, 2, 5, 1000, 1<<40 + 77, 1<<62 + 3, 1<<63 - 1} {
			want, fits := choose(s, i)
			if subset, ok := Subset(s, i); subset != want || ok != fits {
				t.Errorf("Subset(%x, %d) is %x, %v", s, i, subset, ok)
			}
		}
		for _, i := range []int{-1, -2, -1 << 63} {
			if subset, ok := Subset(s, i); subset != 0 || ok {
				t.Errorf("Subset(%x, %d) is %x, %v", s, i, subset, ok)
			}
		}
	}
	if s, ok := Subset(40, 4); s != 0 || ok {
		t.Error("Subset(40, 4):", s, ok)
	}
	if s, ok := Subset(0, 0); s != 0 || !ok {
		t.Error("Subset(0, 0):", s, ok)
	}
	if s, ok := Subset(full, 1<<63-1); s != 1<<63-1 || !ok {
		t.Error("the last index of the full set:", s, ok)
	}
	if s, ok := Subset(full<<1, 1<<63-1); s != full<<1 || !ok {
		t.Error("the last subset of 63 worlds:", s, ok)
	}
	if s, ok := Subset(full<<2, 1<<62); s != 0 || ok {
		t.Error("a subset too many of 62 worlds:", s, ok)
	}
}

func choose(s uint64, i int) (uint64, bool) {
	subset, k := uint64(0), 0
	for w := range 64 {
		if s>>w&1 == 1 {
			subset |= uint64(i) >> k & 1 << w
			k++
		}
	}
	if k < 63 && i>>k != 0 {
		return 0, false
	}
	return subset, true
}

// TestNextListsAll is part of P1.6: from First, Next lists the sets of k worlds below n, in ascending order.
func TestNextListsAll(t *testing.T) {
	for n := 0; n <= 11; n++ {
		for k := 0; k <= n; k++ {
			want := []uint64{}
			for s := range uint64(1) << n {
				if bits.OnesCount64(s) == k {
					want = append(want, s)
				}
			}
			if got := listed(t, n, k); !slices.Equal(got, want) || len(got) != binomial(n, k) {
				t.Errorf("sets of %d below %d: %x", k, n, got)
			}
		}
	}
	for _, k := range []int{0, 1, 2, 62, 63, 64} {
		if got := listed(t, 64, k); len(got) != binomial(64, k) {
			t.Errorf("sets of %d below 64: %d", k, len(got))
		}
	}
}

func listed(t *testing.T, n, k int) []uint64 {
	got := []uint64{}
	s, e := First(n, k)
	if e != api.OK {
		t.Fatal("First", n, k, e)
	}
	for ok := true; ok; s, ok = Next(n, s) {
		got = append(got, s)
		if len(got) > binomial(n, k) {
			t.Fatalf("too many sets of %d below %d", k, n)
		}
	}
	return got
}

func binomial(n, k int) int {
	if k > n-k {
		k = n - k
	}
	b := 1
	for i := range k {
		b = b * (n - i) / (i + 1)
	}
	return b
}

// TestSubsetListsAll is part of P1.6: each subset once, in ascending order.
func TestSubsetListsAll(t *testing.T) {
	for _, s := range []uint64{0, 1, 40, 0xff, 1<<63 | 1<<31 | 1, 0x8040201008040201} {
		want := []uint64{0}
		for subset := s & -s; subset != 0; subset = (subset - s) & s {
			want = append(want, subset)
		}
		got := []uint64{}
		for i := 0; ; i++ {
			subset, ok := Subset(s, i)
			if !ok {
				break
			}
			got = append(got, subset)
		}
		if !slices.Equal(got, want) || len(got) != 1<<Count(s) {
			t.Errorf("subsets of %x: %x", s, got)
		}
	}
}
