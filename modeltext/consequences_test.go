package modeltext_test

import (
	"math/rand/v2"
	"slices"
	"strings"
	"testing"

	"witting/api"
	"witting/model"
	"witting/modeltext"
	"witting/relation"
)

// TestOrder is P14.4: the order of the lines behind the first one does not matter, nor do spaces, empty lines and comments.
func TestOrder(t *testing.T) {
	r := rand.New(rand.NewPCG(14, 3))
	for _, worlds := range []int{1, 2, 3, 10, 64} {
		for agents := range 5 {
			s := names(agents, 3)
			m := random(r, worlds, s)
			l := textOf(s, m)
			for range 5 {
				r.Shuffle(len(l)-1, func(i, j int) { l[i+1], l[j+1] = l[j+1], l[i+1] })
				if again, line, e := modeltext.Parse(s, strings.Join(l, "\n")); e != api.OK || line != 0 || !model.Same(again, m) {
					t.Fatalf("%q is read as %v, %d, %d", l, again, line, e)
				}
				text := ""
				for _, line := range l {
					text += []string{"", "\n", "# " + line + "\n", "  \n"}[r.IntN(4)]
					text += strings.ReplaceAll(strings.Replace(line, " ", "  ", 1), " {", []string{"{", "   {", " {"}[r.IntN(3)]) + "\n"
				}
				if again, line, e := modeltext.Parse(s, text); e != api.OK || line != 0 || !model.Same(again, m) {
					t.Fatalf("%q is read as %v, %d, %d", text, again, line, e)
				}
			}
		}
	}
}

// TestEquivalence is P14.4: a cells line gives an equivalence relation, in which the worlds of a set are together.
func TestEquivalence(t *testing.T) {
	r := rand.New(rand.NewPCG(14, 4))
	for _, worlds := range []int{1, 2, 3, 5, 10, 33, 64} {
		for range 20 {
			blocks := make([]uint64, 1+r.IntN(worlds))
			for w := range worlds {
				if r.IntN(4) > 0 {
					blocks[r.IntN(len(blocks))] |= 1 << w
				}
			}
			want := make([]uint64, worlds)
			line := "cells a"
			for w := range want {
				want[w] = 1 << w
			}
			for _, block := range blocks {
				line += " " + setText(block)
				for w := range want {
					if block>>w&1 == 1 {
						want[w] = block
					}
				}
			}
			head := textOf(api.Signature{}, api.Model{Worlds: worlds})[0]
			m, at, e := modeltext.Parse(names(1, 0), lines(head, line))
			if e != api.OK || at != 0 || !slices.Equal(m.Rel[0], want) {
				t.Fatalf("%q with %d worlds is read as %v, %d, %d", line, worlds, m, at, e)
			}
			for _, property := range []int{api.PropReflexive, api.PropSymmetric, api.PropTransitive} {
				if !relation.Has(m.Rel[0], property) {
					t.Fatalf("%q with %d worlds has not the property %d", line, worlds, property)
				}
			}
		}
	}
}

// fill overwrites a list, with its spare capacity.
func fill(l []uint64) {
	l = l[:cap(l)]
	for i := range l {
		l[i] = 99
	}
}

// TestMemory is P14.3: arguments stay as they are, with their spare capacity, and results share nothing with other results or within themselves.
func TestMemory(t *testing.T) {
	s := api.Signature{Agents: []string{"a", "b", "x"}[:2], Facts: []string{"p", "q", "y"}[:2]}
	m := example()
	m.Val = append(m.Val, 77)[:2]
	m.Rel = append(m.Rel, []uint64{77})[:2]
	for a, r := range m.Rel {
		m.Rel[a] = append(r, 77)[:3]
	}
	text, _ := modeltext.Format(s, m)
	kept, _, _ := modeltext.Parse(s, text)
	other, _, _ := modeltext.Parse(s, text)
	fill(other.Val)
	for a := range other.Rel {
		if !slices.Equal(other.Rel[a], m.Rel[a]) {
			t.Errorf("the relation of %d shares memory with another list: %v", a, other)
		}
		fill(other.Rel[a])
	}
	if again, _, e := modeltext.Parse(s, text); e != api.OK || !model.Same(again, m) || !model.Same(kept, m) {
		t.Errorf("a result has changed: %v, %v", again, kept)
	}
	marks := m.Val[:3][2] == 77 && m.Rel[:3][2][0] == 77 && m.Rel[0][:4][3] == 77 && m.Rel[1][:4][3] == 77
	if !marks || !model.Same(m, example()) || strings.Join(s.Agents[:3], " ") != "a b x" || strings.Join(s.Facts[:3], " ") != "p q y" {
		t.Errorf("an argument has changed: %v, %v", s, m)
	}
}
