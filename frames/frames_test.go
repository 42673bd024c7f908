package frames_test

import (
	"slices"
	"testing"

	"witting/api"
	"witting/frames"
	"witting/model"
)

// TestExamples are the chapter's examples.
func TestExamples(t *testing.T) {
	r := []uint64{2, 4, 0}
	m := api.Model{Worlds: 3, Rel: [][]uint64{r}}
	for logic, want := range map[int][]uint64{api.LogicS4: {7, 6, 4}, api.LogicS5: {7, 7, 7}, api.LogicKD: {2, 4, 4}, api.LogicKD45: {6, 6, 6}} {
		if c, e := frames.Close(m, logic); e != api.OK || !model.Same(c, api.Model{Worlds: 3, Rel: [][]uint64{want}}) {
			t.Error("Close:", logic, c, e)
		}
	}
	want := []api.Defect{
		{Property: api.PropSerial, Worlds: []int{2}},
		{Property: api.PropTransitive, Worlds: []int{0, 1, 2}},
		{Property: api.PropEuclidean, Worlds: []int{0, 1, 1}},
	}
	if l, e := frames.Defects(m, api.LogicKD45); e != api.OK || !slices.EqualFunc(l, want, sameDefect) {
		t.Error("Defects:", l, e)
	}
	for property, want := range map[int][2]uint64{api.PropReflexive: {0, 2}, api.PropTransitive: {0, 2}, api.PropEuclidean: {0, 2}, api.PropSerial: {2, 0}, api.PropSymmetric: {0, 1}} {
		if w, s, e := frames.Counter(r, property); uint64(w) != want[0] || s != want[1] || e != api.OK {
			t.Error("Counter:", property, w, s, e)
		}
	}
}

func sameDefect(a, b api.Defect) bool {
	return a.Agent == b.Agent && a.Property == b.Property && slices.Equal(a.Worlds, b.Worlds)
}

// TestProperties is part of P15.1: each result is a list of its own.
func TestProperties(t *testing.T) {
	for range 2 {
		for logic, want := range propertiesOf() {
			got, e := frames.Properties(logic)
			if e != api.OK || !slices.Equal(got, want) {
				t.Error("Properties:", logic, got, e)
			}
			for i := range got[:cap(got)] {
				got[:cap(got)][i] = 99
			}
		}
	}
	for _, logic := range noLogics() {
		if got, e := frames.Properties(logic); e != api.ErrArg || len(got) != 0 {
			t.Error("Properties:", logic, got, e)
		}
	}
}

// TestHas is part of P15.1.
func TestHas(t *testing.T) {
	for _, r := range append(small(), large()...) {
		for logic := range propertiesOf() {
			if got := frames.Has(r, logic); got != satisfies(r, logic) {
				t.Errorf("Has(%x, %d) is %t", r, logic, got)
			}
		}
		for _, logic := range noLogics() {
			if frames.Has(r, logic) {
				t.Errorf("Has(%x, %d)", r, logic)
			}
		}
	}
	for _, l := range malformed() {
		for _, r := range l {
			for logic := -1; logic <= 7; logic++ {
				if frames.Has(r, logic) {
					t.Errorf("Has of %d words, %d", len(r), logic)
				}
			}
		}
	}
}

// TestIn is part of P15.1: one relation without the properties suffices, at each place.
func TestIn(t *testing.T) {
	for _, m := range models() {
		for logic := range propertiesOf() {
			want := true
			for _, r := range m.Rel {
				want = want && satisfies(r, logic)
			}
			if got := frames.In(m, logic); got != want {
				t.Errorf("In(%v, %d) is %t", m, logic, got)
			}
		}
		for _, logic := range noLogics() {
			if frames.In(m, logic) {
				t.Errorf("In(%v, %d)", m, logic)
			}
		}
	}
	for logic := range propertiesOf() {
		for agents := range 5 {
			good := api.Model{Worlds: 2, Rel: slices.Repeat([][]uint64{{3, 3}}, agents)}
			if !frames.In(good, logic) {
				t.Errorf("In(%v, %d) is false", good, logic)
			}
			for a := range agents {
				bad := api.Model{Worlds: 2, Rel: slices.Clone(good.Rel)}
				bad.Rel[a] = []uint64{2, 0}
				if want := logic == api.LogicK || logic == api.LogicK4; frames.In(bad, logic) != want {
					t.Errorf("In(%v, %d) is %t", bad, logic, !want)
				}
			}
		}
	}
	for _, l := range notValid() {
		for _, m := range l {
			for logic := -1; logic <= 7; logic++ {
				if frames.In(m, logic) {
					t.Errorf("In(%v, %d)", m, logic)
				}
			}
		}
	}
}

// TestFewerModels is part of P15.6: a logic that has all properties of another one has fewer models.
func TestFewerModels(t *testing.T) {
	for _, r := range append(small(), large()...) {
		for stronger, l := range propertiesOf() {
			for weaker, k := range propertiesOf() {
				more := !slices.ContainsFunc(k, func(property int) bool { return !slices.Contains(l, property) })
				if more && frames.Has(r, stronger) && !frames.Has(r, weaker) {
					t.Errorf("%x has the properties of %d, and not of %d", r, stronger, weaker)
				}
			}
		}
	}
}
