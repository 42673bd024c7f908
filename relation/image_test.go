package relation

import (
	"slices"
	"testing"

	"witting/api"
)

// sets returns sets of points below n, some of them with bits of points that there are not.
func sets(n int) []uint64 {
	l := []uint64{0, full, 1, 1 << 63, full << n, 0x5555555555555555, 0xcccccccccccccccc}
	if n <= 3 {
		for s := range uint64(1) << n {
			l = append(l, s, s|full<<n)
		}
	}
	return l
}

// TestBoxAndDiamond is part of P2.4.
func TestBoxAndDiamond(t *testing.T) {
	for _, r := range append(samples(), relations(3)...) {
		for _, s := range sets(len(r)) {
			box, diamond := Box(r, s), Diamond(r, s)
			for w := range 64 {
				all, some := w < len(r), false
				for v := range r {
					if w < len(r) && pair(r, w, v) {
						all = all && s>>v&1 == 1
						some = some || s>>v&1 == 1
					}
				}
				if box>>w&1 == 1 != all || diamond>>w&1 == 1 != some {
					t.Fatalf("%x, %x: Box %x, Diamond %x", r, s, box, diamond)
				}
			}
		}
	}
	r := []uint64{2, 4, 0}
	if Box(r, 4) != 6 || Diamond(r, 4) != 2 || Reach(r, 1) != 6 {
		t.Error("examples:", Box(r, 4), Diamond(r, 4), Reach(r, 1))
	}
}

// TestReach is part of P2.4 and P2.6: the union of the images under all powers.
func TestReach(t *testing.T) {
	for _, r := range append(samples(), relations(3)...) {
		for _, from := range sets(len(r)) {
			want, layer := uint64(0), from
			for range len(r) + 1 {
				next := uint64(0)
				for w := range r {
					if layer>>w&1 == 1 {
						next |= r[w]
					}
				}
				layer = next
				want |= layer
			}
			if got := Reach(r, from); got != want {
				t.Fatalf("Reach(%x, %x) is %x, not %x", r, from, got, want)
			}
		}
	}
	ring := make([]uint64, 64)
	for w := range ring {
		ring[w] = 1 << ((w + 1) % 64)
	}
	if Reach(ring, 1) != full || Reach(ring[:0], 1) != 0 {
		t.Error("a ring:", Reach(ring, 1))
	}
}

// TestInvalidImages is part of P2.4 and P2.5: without a valid relation there is no result.
func TestInvalidImages(t *testing.T) {
	for _, l := range malformed() {
		for _, r := range l {
			for _, s := range []uint64{0, 1, 1 << 63, full} {
				if Box(r, s) != 0 || Diamond(r, s) != 0 || Reach(r, s) != 0 || len(Path(r, s, full)) != 0 || len(Path(r, full, s)) != 0 {
					t.Errorf("%d words, set %x", len(r), s)
				}
			}
		}
	}
}

// TestImageLaws is part of P2.6: duality, and the converse moves a set across.
func TestImageLaws(t *testing.T) {
	for _, r := range append(samples(), relations(3)...) {
		c, e := Converse(r)
		if e != api.OK {
			t.Fatal("Converse", e)
		}
		points := full >> (64 - len(r))
		for _, s := range sets(len(r)) {
			if Diamond(r, s) != points&^Box(r, ^s) {
				t.Fatalf("Box and Diamond of %x are not dual at %x", r, s)
			}
			for _, u := range sets(len(r)) {
				s, u := s&points, u&points
				if (s&^Box(r, u) == 0) != (Diamond(c, s)&^u == 0) {
					t.Fatalf("%x: the sets %x and %x", r, s, u)
				}
			}
		}
	}
}

// firstPath returns the first path of a number of steps in lexicographic order, or nothing.
func firstPath(r []uint64, from, to uint64, steps int) []int {
	for w := range r {
		if from>>w&1 == 0 {
			continue
		}
		if steps == 0 {
			if to>>w&1 == 1 {
				return []int{w}
			}
			continue
		}
		if rest := firstPath(r, r[w], to, steps-1); rest != nil {
			return append([]int{w}, rest...)
		}
	}
	return nil
}

// TestPath is P2.5: against a search through all paths, the short ones first.
func TestPath(t *testing.T) {
	l := slices.Concat(relations(0), relations(1), relations(2), relations(3))
	for _, n := range []int{4, 5, 6} {
		l = append(l, mixed(n)...)
	}
	for _, r := range l {
		for _, from := range sets(len(r)) {
			for _, to := range sets(len(r)) {
				var want []int
				for steps := 1; steps <= len(r) && want == nil; steps++ {
					want = firstPath(r, from, to, steps)
				}
				if got := Path(r, from, to); !slices.Equal(got, want) {
					t.Fatalf("Path(%x, %x, %x) is %v, not %v", r, from, to, got, want)
				}
			}
		}
	}
}

// TestPathExamples is part of P2.5.
func TestPathExamples(t *testing.T) {
	ring := make([]uint64, 64)
	round := []int{}
	for w := range ring {
		ring[w] = 1 << ((w + 1) % 64)
		round = append(round, w)
	}
	round = append(round, 0)
	for _, c := range []struct {
		name     string
		r        []uint64
		from, to uint64
		want     []int
	}{
		{"the example", []uint64{2, 4, 0}, 1, 4, []int{0, 1, 2}},
		{"no step from the last point", []uint64{2, 4, 0}, 4, 7, nil},
		{"a loop is one step", []uint64{1}, 1, 1, []int{0, 0}},
		{"no path of no steps", []uint64{2, 0}, 1, 1, nil},
		{"back to the beginning", []uint64{2, 1}, 1, 1, []int{0, 1, 0}},
		{"all points of a ring", ring, 1, 1, round},
		{"a shorter path from a higher point", []uint64{2, 4, 0}, 3, 4, []int{1, 2}},
		{"the lower one of two beginnings", []uint64{4, 4, 0}, 3, 4, []int{0, 2}},
		{"the lower one of two ways", []uint64{6, 8, 8, 0}, 1, 8, []int{0, 1, 3}},
		{"the lower way leads nowhere", []uint64{6, 0, 8, 0}, 1, 8, []int{0, 2, 3}},
		{"the lower one of two ends", []uint64{6, 0, 0}, 1, 6, []int{0, 1}},
		{"points that there are not", []uint64{2, 0}, 1<<63 | 1, 1<<63 | 1<<2, nil},
		{"from nowhere", []uint64{1}, 0, 1, nil},
		{"to nowhere", []uint64{1}, 1, 0, nil},
		{"no points", nil, full, full, nil},
	} {
		if got := Path(c.r, c.from, c.to); !slices.Equal(got, c.want) {
			t.Errorf("%s: %v", c.name, got)
		}
	}
}
