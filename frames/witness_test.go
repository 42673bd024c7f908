package frames_test

import (
	"slices"
	"testing"

	"witting/api"
	"witting/frames"
)

// TestDefects is P15.3.
func TestDefects(t *testing.T) {
	l := models()
	for _, r := range small() {
		if len(r) > 0 {
			l = append(l, one(r))
		}
	}
	for _, m := range l {
		for logic, properties := range propertiesOf() {
			want := []api.Defect{}
			for a, r := range m.Rel {
				for _, property := range properties {
					if worlds := least(r, property); worlds != nil {
						want = append(want, api.Defect{Agent: a, Property: property, Worlds: worlds})
					}
				}
			}
			got, e := frames.Defects(m, logic)
			if e != api.OK || !slices.EqualFunc(got, want, sameDefect) {
				t.Errorf("Defects(%v, %d) is %v, %d, not %v", m, logic, got, e, want)
			}
			if frames.In(m, logic) != (len(got) == 0) {
				t.Errorf("In(%v, %d) is %t, with the defects %v", m, logic, len(got) != 0, got)
			}
		}
	}
}

// expected returns the world and the set of Counter, of the least list that shows that a relation lacks a property.
func expected(r []uint64, property int, l []int) (int, uint64) {
	switch property {
	case api.PropSerial:
		return l[0], 0
	case api.PropSymmetric:
		return l[0], 1 << l[0]
	case api.PropEuclidean:
		return l[0], 1 << l[2]
	}
	return l[0], r[l[0]]
}

// TestCounter is P15.5: also that the axiom is false at the world.
func TestCounter(t *testing.T) {
	for _, r := range append(small(), large()...) {
		for property := 1; property <= 5; property++ {
			w, s, e := frames.Counter(r, property)
			l := least(r, property)
			if l == nil {
				if w != 0 || s != 0 || e != api.ErrNone {
					t.Errorf("Counter(%x, %d) is %d, %x, %d", r, property, w, s, e)
				}
				continue
			}
			world, set := expected(r, property, l)
			if w != world || s != set || e != api.OK {
				t.Errorf("Counter(%x, %d) is %d, %x, %d, not %d, %x", r, property, w, s, e, world, set)
			}
			if truth(axiom(t, property), r, s)>>w&1 == 1 {
				t.Errorf("Counter(%x, %d) is %d, %x, where the axiom is true", r, property, w, s)
			}
		}
	}
}

// TestCounterErrors is part of P15.5.
func TestCounterErrors(t *testing.T) {
	numbers := append(noProperties(), 1, 2, 3, 4, 5)
	for want, l := range malformed() {
		for _, r := range l {
			for _, property := range numbers {
				if w, s, e := frames.Counter(r, property); w != 0 || s != 0 || e != want {
					t.Errorf("Counter of %d words, %d: %d, %x, %d", len(r), property, w, s, e)
				}
			}
		}
	}
	for _, r := range append(small(), large()...) {
		for _, property := range noProperties() {
			if w, s, e := frames.Counter(r, property); w != 0 || s != 0 || e != api.ErrArg {
				t.Errorf("Counter(%x, %d) is %d, %x, %d", r, property, w, s, e)
			}
		}
	}
}

// TestCorrespondence is part of P15.6: a relation has a property exactly if its axiom is true in all worlds, whatever the fact is.
func TestCorrespondence(t *testing.T) {
	for property := 1; property <= 5; property++ {
		f := axiom(t, property)
		for _, r := range small() {
			all := uint64(1)<<len(r) - 1
			valid := true
			for s := range all + 1 {
				valid = valid && truth(f, r, s) == all
			}
			if _, _, e := frames.Counter(r, property); valid != (e == api.ErrNone) {
				t.Errorf("the axiom of %d is valid in %x: %t", property, r, valid)
			}
		}
	}
}
