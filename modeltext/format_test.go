package modeltext_test

import (
	"math/rand/v2"
	"strconv"
	"strings"
	"testing"

	"witting/api"
	"witting/model"
	"witting/modeltext"
	"witting/signature"
)

// names returns the signature with the first usual names.
func names(agents, facts int) api.Signature {
	s, _ := signature.Default(agents, facts, 0)
	return s
}

// lines returns the text of lines.
func lines(l ...string) string {
	return strings.Join(l, "\n") + "\n"
}

// random returns a model for a signature.
func random(r *rand.Rand, worlds int, s api.Signature) api.Model {
	set := func() uint64 {
		set := ^uint64(0) >> (64 - worlds)
		for range r.IntN(5) {
			set &= r.Uint64()
		}
		return set
	}
	m := api.Model{Worlds: worlds}
	for range s.Facts {
		m.Val = append(m.Val, set())
	}
	for range s.Agents {
		successors := make([]uint64, worlds)
		for w := range successors {
			successors[w] = set()
		}
		m.Rel = append(m.Rel, successors)
	}
	return m
}

// setText returns a set as the chapter of layer 1 writes it.
func setText(s uint64) string {
	worlds := []string{}
	for w := range 64 {
		if s>>w&1 == 1 {
			worlds = append(worlds, strconv.Itoa(w))
		}
	}
	return "{" + strings.Join(worlds, " ") + "}"
}

// textOf returns the lines of P14.1.
func textOf(s api.Signature, m api.Model) []string {
	l := []string{"worlds " + strconv.Itoa(m.Worlds)}
	for i, name := range s.Facts {
		l = append(l, "fact "+name+" "+setText(m.Val[i]))
	}
	for i, name := range s.Agents {
		for w := range m.Worlds {
			l = append(l, "agent "+name+" "+strconv.Itoa(w)+" "+setText(m.Rel[i][w]))
		}
	}
	return l
}

// badSignatures returns signatures that are not valid, with their errors.
func badSignatures() map[int][]api.Signature {
	return map[int][]api.Signature{
		api.ErrLimit: {{Agents: []string{"a", "b", "c", "d", "e"}}, {Facts: make([]string, 9)}, {Actions: make([]string, 9)}},
		api.ErrForm:  {{Agents: []string{""}}, {Facts: []string{"p", "Q"}}, {Actions: []string{"abcdefghi"}}},
		api.ErrName:  {{Agents: []string{"a"}, Facts: []string{"a"}}, {Facts: []string{"true"}}, {Agents: []string{"a", "a"}}},
	}
}

// badModels returns models that are not valid, with their errors.
func badModels() map[int][]api.Model {
	return map[int][]api.Model{
		api.ErrRange: {{}, {Worlds: -1}, {Worlds: 65}, {Worlds: 1, Val: []uint64{2}}, {Worlds: 2, Rel: [][]uint64{{0, 4}}}},
		api.ErrLimit: {{Worlds: 1, Val: make([]uint64, 9)}, {Worlds: 1, Rel: make([][]uint64, 5)}},
		api.ErrForm:  {{Worlds: 1, Rel: [][]uint64{nil}}, {Worlds: 2, Rel: [][]uint64{{1}}}},
	}
}

// example is the model of the chapter's example.
func example() api.Model {
	return api.Model{Worlds: 3, Val: []uint64{5, 0}, Rel: [][]uint64{{3, 3, 4}, {0, 0, 5}}}
}

// TestExample is the chapter's example.
func TestExample(t *testing.T) {
	s := names(2, 2)
	m, line, e := modeltext.Parse(s, lines("worlds 3", "fact p {0 2}", "cells a {0 1}", "agent b 2 {0 2}"))
	if e != api.OK || line != 0 || !model.Same(m, example()) {
		t.Error("Parse:", m, line, e)
	}
	text, e := modeltext.Format(s, m)
	if want := lines("worlds 3", "fact p {0 2}", "fact q {}", "agent a 0 {0 1}", "agent a 1 {0 1}", "agent a 2 {2}", "agent b 0 {}", "agent b 1 {}", "agent b 2 {0 2}"); text != want || e != api.OK {
		t.Errorf("Format: %q, %d", text, e)
	}
}

// TestFormat is P14.1, and P14.4: Parse restores the model.
func TestFormat(t *testing.T) {
	r := rand.New(rand.NewPCG(14, 1))
	for _, worlds := range []int{1, 2, 3, 9, 10, 11, 40, 63, 64} {
		for agents := range 5 {
			for _, facts := range []int{0, 1, 5, 8} {
				s := names(agents, facts)
				m := random(r, worlds, s)
				text, e := modeltext.Format(s, m)
				if e != api.OK || text != lines(textOf(s, m)...) {
					t.Fatalf("Format(%v) is %q, %d", m, text, e)
				}
				if again, line, e := modeltext.Parse(s, text); e != api.OK || line != 0 || !model.Same(again, m) {
					t.Fatalf("%v comes back as %v, %d, %d", m, again, line, e)
				}
			}
		}
	}
	other := api.Signature{Agents: []string{"zoe", "ann_1"}, Facts: []string{"worlds", "fact"}, Actions: []string{"agent"}}
	if text, e := modeltext.Format(other, api.Model{Worlds: 1, Val: []uint64{0, 1}, Rel: [][]uint64{{1}, {0}}}); e != api.OK || text != lines("worlds 1", "fact worlds {}", "fact fact {0}", "agent zoe 0 {0}", "agent ann_1 0 {}") {
		t.Errorf("other names: %q, %d", text, e)
	}
}

// TestLargest is P14.4 for the longest text of a model.
func TestLargest(t *testing.T) {
	s := api.Signature{Agents: []string{"agent__1", "agent__2", "agent__3", "agent__4"}}
	for i := range 8 {
		s.Facts = append(s.Facts, "fact___"+strconv.Itoa(i))
	}
	m := api.Model{Worlds: 64}
	for range 8 {
		m.Val = append(m.Val, ^uint64(0))
	}
	for range 4 {
		successors := make([]uint64, 64)
		for w := range successors {
			successors[w] = ^uint64(0)
		}
		m.Rel = append(m.Rel, successors)
	}
	text, e := modeltext.Format(s, m)
	if e != api.OK || text != lines(textOf(s, m)...) {
		t.Fatal("Format:", e)
	}
	if again, line, e := modeltext.Parse(s, text); e != api.OK || line != 0 || !model.Same(again, m) {
		t.Error("Parse:", again, line, e)
	}
}

// TestFormatErrors is P14.1: the errors in their order.
func TestFormatErrors(t *testing.T) {
	fails := func(s api.Signature, m api.Model, want int) {
		t.Helper()
		if text, e := modeltext.Format(s, m); text != "" || e != want {
			t.Errorf("Format(%v, %v) is %q, %d, not %d", s, m, text, e, want)
		}
	}
	for want, l := range badSignatures() {
		for _, s := range l {
			fails(s, example(), want)
			fails(s, api.Model{}, want)
			fails(s, api.Model{Worlds: 1, Val: make([]uint64, 9)}, want)
		}
	}
	for want, l := range badModels() {
		for _, m := range l {
			for _, s := range []api.Signature{{}, names(1, 0), names(0, 1), names(2, 2)} {
				fails(s, m, want)
			}
		}
	}
	for agents := range 5 {
		for facts := range 9 {
			if agents != 2 || facts != 2 {
				fails(names(agents, facts), example(), api.ErrArg)
			}
		}
	}
	fails(names(2, 2), api.Model{Worlds: 3, Val: []uint64{0, 0}}, api.ErrArg)
	fails(names(2, 2), api.Model{Worlds: 1, Rel: [][]uint64{{0}, {0}}}, api.ErrArg)
}
