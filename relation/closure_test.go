package relation

import (
	"math"
	"slices"
	"testing"

	"witting/api"
)

// holds reports whether a relation has a property, by the definition of the property with pairs.
func holds(r []uint64, property int) bool {
	for w := range r {
		if property == api.PropSerial && r[w] == 0 || property == api.PropReflexive && !pair(r, w, w) {
			return false
		}
		for v := range r {
			if property == api.PropSymmetric && pair(r, w, v) && !pair(r, v, w) {
				return false
			}
			for u := range r {
				if property == api.PropTransitive && pair(r, w, v) && pair(r, v, u) && !pair(r, w, u) {
					return false
				}
				if property == api.PropEuclidean && pair(r, w, u) && pair(r, w, v) && !pair(r, u, v) {
					return false
				}
			}
		}
	}
	return property >= api.PropSerial && property <= api.PropEuclidean
}

type closing struct {
	name     string
	property int
	f        func([]uint64) ([]uint64, int)
}

func closings() []closing {
	return []closing{
		{"Reflexive", api.PropReflexive, Reflexive},
		{"Symmetric", api.PropSymmetric, Symmetric},
		{"Transitive", api.PropTransitive, Transitive},
		{"Euclidean", api.PropEuclidean, Euclidean},
	}
}

// TestHas is part of P2.3: against the definitions, and with numbers that are no properties.
func TestHas(t *testing.T) {
	numbers := []int{math.MinInt, -1, 0, 1, 2, 3, 4, 5, 6, 7, 64, math.MaxInt}
	for _, r := range append(samples(), relations(3)...) {
		for _, property := range numbers {
			if Has(r, property) != holds(r, property) {
				t.Errorf("Has(%x, %d)", r, property)
			}
		}
	}
	for _, l := range malformed() {
		for _, r := range l {
			for _, property := range numbers {
				if Has(r, property) {
					t.Errorf("Has of %d words, %d", len(r), property)
				}
			}
		}
	}
}

// TestClosureExamples is part of P2.3.
func TestClosureExamples(t *testing.T) {
	r := []uint64{2, 4, 0}
	want := map[string][]uint64{"Reflexive": {3, 6, 4}, "Symmetric": {2, 5, 2}, "Transitive": {6, 4, 0}, "Euclidean": {2, 6, 6}}
	for _, c := range closings() {
		if got, e := c.f(r); e != api.OK || !slices.Equal(got, want[c.name]) {
			t.Error(c.name, got, e)
		}
		if got, e := c.f(nil); e != api.OK || len(got) != 0 {
			t.Error(c.name, "of no points", got, e)
		}
	}
}

// TestClosureErrors is part of P2.3.
func TestClosureErrors(t *testing.T) {
	for _, c := range closings() {
		for want, l := range malformed() {
			for _, r := range l {
				if got, e := c.f(r); e != want || len(got) != 0 {
					t.Errorf("%s of %d words is %x, %d", c.name, len(r), got, e)
				}
			}
		}
	}
}

// TestLeastClosure is part of P2.3 and P2.6: a closure is contained in each relation that contains r and has the property.
func TestLeastClosure(t *testing.T) {
	for n := range 4 {
		all := relations(n)
		for _, c := range closings() {
			with := slices.DeleteFunc(slices.Clone(all), func(r []uint64) bool { return !holds(r, c.property) })
			for _, r := range all {
				got, e := c.f(r)
				if e != api.OK || !contains(got, r) || !holds(got, c.property) {
					t.Fatalf("%s(%x) is %x, %d", c.name, r, got, e)
				}
				for _, s := range with {
					if contains(s, r) && !contains(s, got) {
						t.Fatalf("%s(%x) is %x, more than %x", c.name, r, got, s)
					}
				}
			}
		}
	}
}

// TestLargeClosure is part of P2.3: over many points against a closure that adds single pairs.
func TestLargeClosure(t *testing.T) {
	chain := make([]uint64, 64)
	for w := range 63 {
		chain[w] = 1 << (w + 1)
	}
	ring := slices.Clone(chain)
	ring[63] = 1
	back, _ := Converse(chain)
	l := [][]uint64{chain, ring, back, slices.Repeat([]uint64{full}, 64), make([]uint64, 64)}
	for _, n := range []int{7, 20, 64} {
		l = append(l, mixed(n)...)
	}
	for _, r := range l {
		for _, c := range closings() {
			got, e := c.f(r)
			if want := addPairs(r, c.property); e != api.OK || !slices.Equal(got, want) {
				t.Errorf("%s(%x) is %x, %d", c.name, r, got, e)
			}
			if again, e := c.f(got); e != api.OK || !slices.Equal(again, got) || !Has(got, c.property) {
				t.Errorf("%s twice of %x is %x, %d", c.name, r, again, e)
			}
		}
	}
}

// addPairs adds the pairs that a property demands one after the other.
func addPairs(r []uint64, property int) []uint64 {
	c := slices.Clone(r)
	set := func(w, v int) bool {
		before := c[w]
		c[w] |= 1 << v
		return c[w] != before
	}
	for changed := true; changed; {
		changed = false
		for w := range c {
			if property == api.PropReflexive {
				changed = set(w, w) || changed
			}
			for v := range c {
				if !pair(c, w, v) {
					continue
				}
				if property == api.PropSymmetric {
					changed = set(v, w) || changed
				}
				for u := range c {
					if property == api.PropTransitive && pair(c, v, u) {
						changed = set(w, u) || changed
					}
					if property == api.PropEuclidean && pair(c, w, u) {
						changed = set(v, u) || changed
					}
				}
			}
		}
	}
	return c
}
