package resolution_test

import (
	"math"
	"slices"
	"testing"

	"witting/api"
	"witting/resolution"
)

// example returns the refutation of the chapter's example.
func example() []api.Resolvent {
	return []api.Resolvent{
		{Clause: []int{1, 2}, Left: -1, Right: 0}, {Clause: []int{-1, 2}, Left: -1, Right: 1}, {Clause: []int{2}, Left: 0, Right: 1},
		{Clause: []int{1, -2}, Left: -1, Right: 2}, {Clause: []int{-1, -2}, Left: -1, Right: 3}, {Clause: []int{-2}, Left: 3, Right: 4},
		{Clause: []int{}, Left: 2, Right: 5, On: 1},
	}
}

// exampleClauses returns the clauses of the chapter's example.
func exampleClauses() [][]int {
	return [][]int{{1, 2}, {-1, 2}, {1, -2}, {-1, -2}}
}

// TestRefute is P10.5, and P10.8: there is a refutation exactly if there is no solution.
func TestRefute(t *testing.T) {
	refuted, solved := 0, 0
	for _, p := range problems() {
		lines, e := resolution.Refute(p.n, p.l)
		if len(modelsOf(p.n, p.l)) > 0 {
			solved++
			if len(lines) != 0 || e != api.ErrSat {
				t.Errorf("%d variables, %v: %d lines, %d", p.n, p.l, len(lines), e)
			}
			continue
		}
		refuted++
		if e != api.OK || !isRefutation(p.l, lines) {
			t.Errorf("%d variables, %v: %v, %d", p.n, p.l, lines, e)
		}
		if e := resolution.Verify(p.n, p.l, lines); e != api.OK {
			t.Errorf("%d variables, %v: Verify of %v is %d", p.n, p.l, lines, e)
		}
	}
	if refuted < 100 || solved < 100 {
		t.Error("sets with a refutation, and with a solution:", refuted, solved)
	}
}

// TestVerify is P10.5: other refutations than those that Refute returns.
func TestVerify(t *testing.T) {
	input := func(right int, clause ...int) api.Resolvent {
		return api.Resolvent{Clause: clause, Left: -1, Right: right}
	}
	l := exampleClauses()
	for i, c := range []struct {
		n int
		l [][]int
		p []api.Resolvent
	}{
		{2, l, example()}, {12, l, example()}, {0, [][]int{{}}, []api.Resolvent{input(0)}}, {3, [][]int{{1}, {}}, []api.Resolvent{input(1)}},
		// An input that is used twice, a line that is not used, and one after an empty clause.
		{2, l, append([]api.Resolvent{input(0, 1, 2), input(0, 1, 2)}, shifted(example(), 2)...)},
		{1, [][]int{{}, {1}}, []api.Resolvent{input(0), input(1, 1), input(0)}},
		// The last variable.
		{12, [][]int{{-12}, {12}}, []api.Resolvent{input(0, -12), input(1, 12), {Left: 1, Right: 0, On: 11}}},
		{2, [][]int{{1, 2}, {-2}, {-1}}, []api.Resolvent{
			input(1, -2), input(0, 1, 2), {Clause: []int{1}, Left: 1, Right: 0, On: 1}, input(2, -1), {Left: 2, Right: 3},
		}},
	} {
		if e := resolution.Verify(c.n, c.l, c.p); e != api.OK {
			t.Errorf("case %d: %d", i, e)
		}
	}
}

// shifted returns lines behind some others.
func shifted(p []api.Resolvent, by int) []api.Resolvent {
	for i := range p {
		if p[i].Left >= 0 {
			p[i].Left, p[i].Right = p[i].Left+by, p[i].Right+by
		}
	}
	return p
}

// TestVerifyForm is P10.5: lines that name no clause or no earlier lines, before whatever else is wrong.
func TestVerifyForm(t *testing.T) {
	huge := []int{math.MinInt, math.MaxInt}
	for at, line := range example() {
		var bad []api.Resolvent
		with := func(left, right, on int) {
			bad = append(bad, api.Resolvent{Clause: line.Clause, Left: left, Right: right, On: on})
		}
		for _, n := range append(huge, -1, 4, 5) {
			with(-1, n, 0)
		}
		for _, on := range append(huge, -1, 1, 12) {
			with(-1, 0, on)
		}
		for _, n := range append(huge, -2, at, at+1, 7) {
			with(n, 0, 0)
		}
		for _, n := range append(huge, -2, -1, at, at+1, 7) {
			with(0, n, 0)
		}
		for _, line := range bad {
			p := example()
			p[at] = line
			if e := resolution.Verify(2, exampleClauses(), p); e != api.ErrForm {
				t.Errorf("line %d as %v: %d", at, line, e)
			}
			p[0].Clause = []int{0}
			p[6].Clause = []int{1}
			if e := resolution.Verify(2, exampleClauses(), p); e != api.ErrForm {
				t.Errorf("line %d as %v, with wrong clauses: %d", at, line, e)
			}
		}
	}
	if e := resolution.Verify(2, nil, []api.Resolvent{{Left: -1}}); e != api.ErrForm {
		t.Error("an input of no clauses:", e)
	}
}

// TestVerifyProof is P10.5: lines with another clause, other premises or another variable, and other ends.
func TestVerifyProof(t *testing.T) {
	check := func(name string, l [][]int, p []api.Resolvent) {
		t.Helper()
		if e := resolution.Verify(2, l, p); e != api.ErrProof {
			t.Errorf("%s: %v, %d", name, p, e)
		}
	}
	check("no lines", exampleClauses(), nil)
	check("no clauses", nil, nil)
	check("no lines, the empty clause", [][]int{{}}, []api.Resolvent{})
	clauses := append(allClauses(2), []int{2, 1}, []int{1, 1}, []int{0}, []int{2, 2}, []int{1, 2, 3}, []int{math.MinInt}, []int{-2, -1}, make([]int, 1000))
	for at, line := range example() {
		check("the beginning", exampleClauses(), example()[:at])
		for _, c := range clauses {
			if p := example(); !slices.Equal(c, line.Clause) {
				p[at].Clause = c
				check("another clause", exampleClauses(), p)
			}
		}
		if line.Left == -1 {
			for right := range 4 {
				if p := example(); right != line.Right {
					p[at].Right = right
					check("another input", exampleClauses(), p)
				}
			}
			continue
		}
		for _, on := range []int{math.MinInt, -2, -1, 0, 1, 2, 11, 12, math.MaxInt} {
			if p := example(); on != line.On {
				p[at].On = on
				check("another variable", exampleClauses(), p)
			}
		}
		for left := range at {
			for right := range at {
				p := example()
				if p[at].Left, p[at].Right = left, right; left != line.Left || right != line.Right {
					check("other premises", exampleClauses(), p)
				}
			}
		}
	}
	check("an end that is not empty", exampleClauses(), append(example(), api.Resolvent{Clause: []int{1, 2}, Left: -1}))
	// A resolvent that is always true is none, also if its line has no clause.
	check("opposite literals", exampleClauses(), []api.Resolvent{
		{Clause: []int{1, 2}, Left: -1}, {Clause: []int{-1, -2}, Left: -1, Right: 3}, {Left: 0, Right: 1},
	})
	check("an input with its literals in another order", [][]int{{1, 2}, {}}, []api.Resolvent{{Clause: []int{2, 1}, Left: -1}, {Left: -1, Right: 1}})
}

// TestVerifySound is P10.8: what Verify accepts has no solution, for all lists of two inputs and a resolvent.
func TestVerifySound(t *testing.T) {
	for _, a := range allClauses(2) {
		for _, b := range allClauses(2) {
			l := [][]int{a, b}
			for on := range 2 {
				p := []api.Resolvent{{Clause: a, Left: -1}, {Clause: b, Left: -1, Right: 1}, {Left: 0, Right: 1, On: on}}
				e := resolution.Verify(2, l, p)
				if (e == api.OK) != isRefutation(l, p) || e == api.OK && len(modelsOf(2, l)) > 0 {
					t.Errorf("%v: %d", p, e)
				}
			}
		}
	}
}

// spare returns a copy of a list with marks in its spare capacity.
func spare(c []int) []int {
	return append(slices.Clone(c), 97, 97)[:len(c)]
}

// wreck changes a list and its spare capacity.
func wreck(c []int) {
	for i := range c[:cap(c)] {
		c[:cap(c)][i] = 98
	}
}

// TestMemory is P10.7: arguments stay as they are, and results share nothing.
func TestMemory(t *testing.T) {
	var l [][]int
	for _, c := range exampleClauses() {
		l = append(l, spare(c))
	}
	single := spare([]int{1, 2, 3})
	fixed, mixed := spare([]int{3, 4}), spare([]int{3, -1, 3, 2})
	for range 2 {
		lines, e := resolution.Refute(2, l)
		if e != api.OK || !isRefutation(l, lines) {
			t.Fatal(lines, e)
		}
		if e := resolution.Verify(2, l, lines); e != api.OK {
			t.Fatal(e)
		}
		kept := slices.Clone(lines)
		for i, line := range kept {
			if slices.Contains(line.Clause, 98) {
				t.Fatal("line", i, "shares memory with an earlier one")
			}
			wreck(line.Clause)
		}
		literals, conflict, _ := resolution.Propagate(4, [][]int{single}, fixed)
		normal, _, _ := resolution.Normal(mixed)
		already, _, _ := resolution.Normal(single)
		resolvent, _ := resolution.Resolve(l[0], l[1], 0)
		clauses, _ := resolution.Clauses([]api.Node{{Op: api.OpFalse}}, 2)
		if conflict != -1 || !slices.Equal(literals, []int{3, 4}) || !slices.Equal(normal, []int{-1, 2, 3}) ||
			!slices.Equal(already, []int{1, 2, 3}) || !slices.Equal(resolvent, []int{2}) || !same(clauses, exampleClauses()) {
			t.Fatal(conflict, literals, normal, already, resolvent, clauses)
		}
		for _, c := range append(clauses, literals, normal, already, resolvent) {
			if slices.Contains(c, 98) {
				t.Fatal("two results share memory")
			}
			wreck(c)
		}
	}
	for i, c := range append(slices.Clone(l), single, fixed, mixed) {
		want := append(exampleClauses(), []int{1, 2, 3}, []int{3, 4}, []int{3, -1, 3, 2})[i]
		if !slices.Equal(c[:len(c)+2], append(slices.Clone(want), 97, 97)) {
			t.Errorf("argument %d was changed: %v", i, c[:len(c)+2])
		}
	}
}
