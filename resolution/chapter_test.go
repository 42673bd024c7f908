package resolution_test

import (
	"math"
	"math/rand/v2"
	"slices"

	"witting/api"
	"witting/resolution"
)

// ascending returns the literals of a list, each once, in the order of their variables.
func ascending(c []int) []int {
	var l []int
	for v := 1; v <= 12; v++ {
		for _, literal := range []int{v, -v} {
			if slices.Contains(c, literal) {
				l = append(l, literal)
			}
		}
	}
	return l
}

// isTrue reports whether a literal is true at a valuation.
func isTrue(literal, v int) bool {
	if literal < 0 {
		return v>>(-literal-1)&1 == 0
	}
	return v>>(literal-1)&1 == 1
}

// holds is the chapter's satisfaction.
func holds(l [][]int, v int) bool {
	for _, c := range l {
		if !slices.ContainsFunc(c, func(literal int) bool { return isTrue(literal, v) }) {
			return false
		}
	}
	return true
}

// modelsOf returns the valuations of n variables that satisfy all clauses, in ascending order.
func modelsOf(n int, l [][]int) []int {
	var models []int
	for v := range 1 << n {
		if holds(l, v) {
			models = append(models, v)
		}
	}
	return models
}

// propagated is the chapter's propagation.
func propagated(l [][]int, fixed []int) ([]int, int) {
	literals := slices.Clone(fixed)
	isFalse := func(literal int) bool { return slices.Contains(literals, -literal) }
	for {
		for i, c := range l {
			if !slices.ContainsFunc(c, func(literal int) bool { return !isFalse(literal) }) {
				return ascending(literals), i
			}
		}
		added := false
		for _, c := range l {
			others := slices.DeleteFunc(slices.Clone(c), isFalse)
			if len(others) == 1 && !slices.Contains(literals, others[0]) {
				literals, added = append(literals, others[0]), true
				break
			}
		}
		if !added {
			return ascending(literals), -1
		}
	}
}

// resolved is the chapter's resolvent of two clauses in normal form, and whether there is one.
func resolved(a, b []int, v int) ([]int, bool) {
	if !slices.Contains(a, v+1) || !slices.Contains(b, -v-1) {
		return nil, false
	}
	rest := slices.DeleteFunc(slices.Clone(a), func(literal int) bool { return literal == v+1 })
	rest = append(rest, slices.DeleteFunc(slices.Clone(b), func(literal int) bool { return literal == -v-1 })...)
	for _, literal := range rest {
		if slices.Contains(rest, -literal) {
			return nil, false
		}
	}
	return ascending(rest), true
}

// isRefutation is the chapter's refutation: it reports whether each line is what it says, and the last clause is empty.
func isRefutation(l [][]int, p []api.Resolvent) bool {
	for i, line := range p {
		var clause []int
		if line.Left == -1 {
			if line.Right < 0 || line.Right >= len(l) || line.On != 0 {
				return false
			}
			clause = l[line.Right]
		} else {
			if min(line.Left, line.Right) < 0 || max(line.Left, line.Right) >= i || line.On < 0 || line.On > 11 {
				return false
			}
			var ok bool
			if clause, ok = resolved(p[line.Left].Clause, p[line.Right].Clause, line.On); !ok {
				return false
			}
		}
		if !slices.Equal(line.Clause, clause) {
			return false
		}
	}
	return len(p) > 0 && len(p[len(p)-1].Clause) == 0
}

// allClauses returns all clauses in normal form over n variables.
func allClauses(n int) [][]int {
	l := [][]int{nil}
	for v := 1; v <= n; v++ {
		for _, c := range l {
			l = append(l, append(slices.Clone(c), v), append(slices.Clone(c), -v))
		}
	}
	return l
}

// randomClause returns a clause in normal form over n variables, with about that many literals.
func randomClause(r *rand.Rand, n, length int) []int {
	var c []int
	for v := 1; v <= n; v++ {
		if r.IntN(n) < length {
			c = append(c, v*(1-2*r.IntN(2)))
		}
	}
	return c
}

// randomClauses returns clauses over n variables.
func randomClauses(r *rand.Rand, n, count, length int) [][]int {
	var l [][]int
	for range count {
		l = append(l, randomClause(r, n, length))
	}
	return l
}

// problem is a set of clauses.
type problem struct {
	n int
	l [][]int
}

// pigeons returns the clauses that pigeons are in holes, of which each has place for one.
func pigeons(pigeons, holes int) problem {
	var l [][]int
	in := func(pigeon, hole int) int { return pigeon*holes + hole + 1 }
	for i := range pigeons {
		var c []int
		for h := range holes {
			c = append(c, in(i, h))
		}
		l = append(l, c)
		for j := range i {
			for h := range holes {
				l = append(l, []int{-in(j, h), -in(i, h)})
			}
		}
	}
	return problem{pigeons * holes, l}
}

// chains returns the clauses that the first variable holds, each one implies the next, and the last one does not hold.
func chains(n int) problem {
	l := [][]int{{1}}
	for v := 1; v < n; v++ {
		l = append(l, []int{-v, v + 1})
	}
	return problem{n, append(l, []int{-n})}
}

// everyCase returns the clauses of n variables of which each is false at one valuation, 2^n of them.
func everyCase(n int) problem {
	return problem{n, slices.DeleteFunc(allClauses(n), func(c []int) bool { return len(c) < n })}
}

// problems returns sets of clauses: those of the chapter's examples, small and large ones, with and without solutions.
func problems() []problem {
	l := []problem{
		{0, nil}, {0, [][]int{{}}}, {0, [][]int{{}, {}}}, {1, nil}, {1, [][]int{nil}}, {1, [][]int{{1}}}, {1, [][]int{{-1}}}, {1, [][]int{{1}, {-1}}},
		{2, [][]int{{1, 2}, {-1, 2}, {1, -2}}}, {2, [][]int{{1, 2}, {-1, 2}, {1, -2}, {-1, -2}}}, {3, [][]int{{2}, {2}, {-2}}},
		{12, nil}, {12, [][]int{{12}}}, {12, [][]int{{-12}, {12}}}, {12, [][]int{{1, 2}, {}, {-3}}}, {12, [][]int{{1, -2, 3, -4, 5, -6, 7, -8, 9, -10, 11, -12}}},
		pigeons(2, 1), pigeons(3, 2), pigeons(2, 3), pigeons(4, 3), pigeons(3, 4), chains(1), chains(2), chains(12),
	}
	for n := range 7 {
		p := everyCase(n)
		l = append(l, p, problem{n, p.l[1:]}, problem{min(n+6, 12), p.l})
	}
	r := rand.New(rand.NewPCG(10, 1))
	for range 400 {
		n := 1 + r.IntN(5)
		l = append(l, problem{n, randomClauses(r, n, r.IntN(14), 2)})
	}
	for range 40 {
		n := 6 + r.IntN(7)
		l = append(l, problem{n, randomClauses(r, n, 64, 3)}, problem{n, randomClauses(r, n, 64, 2)}, problem{n, randomClauses(r, n, 30, 3)})
	}
	return l
}

// badNumbers returns numbers of variables that are out of range.
func badNumbers() []int {
	return []int{math.MinInt, -1, 13, 14, 64, math.MaxInt}
}

// badClauses returns clauses that are not in normal form over n variables, by their errors.
func badClauses(n int) map[int][][]int {
	bad := map[int][][]int{api.ErrRange: {
		{0}, {n + 1}, {-n - 1}, {math.MinInt}, {math.MaxInt}, {math.MinInt + 1}, {0, 0}, {n + 1, n + 2},
	}}
	for v := 1; v <= n; v++ {
		bad[api.ErrRange] = append(bad[api.ErrRange], []int{v, 0}, []int{-v, n + 1, 1}, []int{v, -n - 1})
		bad[api.ErrOrder] = append(bad[api.ErrOrder], []int{v, v}, []int{v, -v}, []int{-v, v}, []int{-v, -v}, slices.Repeat([]int{v}, 3000))
		for u := 1; u < v; u++ {
			bad[api.ErrOrder] = append(bad[api.ErrOrder], []int{v, u}, []int{v, -u}, []int{-v, u}, []int{-v, -u}, []int{u, v, u}, []int{v, u, 0}, []int{v, v, n + 1})
		}
	}
	return bad
}

// badArguments returns numbers and clauses that Check refuses, by their errors.
func badArguments() map[int][]problem {
	bad := map[int][]problem{
		api.ErrRange: {{0, [][]int{{1}}}, {2, [][]int{{1}, {-2}, {3}, {2, 1}}}, {2, [][]int{{1, 2, 3}}}},
		api.ErrLimit: {{0, make([][]int, 65)}, {12, slices.Repeat([][]int{{1}}, 65)}, {1, slices.Repeat([][]int{{0}}, 65)}, {3, slices.Repeat([][]int{{2, 1}}, 5000)}},
		api.ErrOrder: {{2, [][]int{{1}, {2, 1}, {3}}}, {2, [][]int{{2, -2, 3}}}},
	}
	for _, n := range badNumbers() {
		bad[api.ErrRange] = append(bad[api.ErrRange], problem{n, nil}, problem{n, [][]int{{1}}}, problem{n, [][]int{{2, 1}}}, problem{n, make([][]int, 65)})
	}
	for _, n := range []int{0, 1, 3, 12} {
		for e, l := range badClauses(n) {
			for _, c := range l {
				full := append(make([][]int, 63), c)
				bad[e] = append(bad[e], problem{n, [][]int{c}}, problem{n, full})
			}
		}
	}
	return bad
}

// checked reports whether Check permits the clauses of a problem.
func (p problem) checked() bool {
	return resolution.Check(p.n, p.l) == api.OK
}
