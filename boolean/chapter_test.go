package boolean_test

import (
	"math"
	"math/rand/v2"
	"slices"

	"witting/api"
	"witting/formula"
)

// holds is the truth value of a formula whose atoms have truth values, by the meaning of the operators.
func holds(f []api.Node, atom func(g []api.Node) bool) bool {
	f = formula.Compact(f)
	n := f[len(f)-1]
	x := func() bool { return holds(formula.Sub(f, n.X), atom) }
	y := func() bool { return holds(formula.Sub(f, n.Y), atom) }
	switch n.Op {
	case api.OpTrue:
		return true
	case api.OpFalse:
		return false
	case api.OpNot:
		return !x()
	case api.OpAnd:
		return x() && y()
	case api.OpOr:
		return x() || y()
	case api.OpImp:
		return !x() || y()
	case api.OpIff:
		return x() == y()
	}
	return atom(f)
}

// tableOf is the chapter's truth table.
func tableOf(f []api.Node, n int) uint64 {
	t := uint64(0)
	for v := range 1 << n {
		if holds(f, func(g []api.Node) bool { return v>>g[0].I&1 == 1 }) {
			t |= 1 << v
		}
	}
	return t
}

// atomsOf is the chapter's list of atoms.
func atomsOf(f []api.Node) [][]api.Node {
	f = formula.Compact(f)
	n := f[len(f)-1]
	var l [][]api.Node
	switch n.Op {
	case api.OpTrue, api.OpFalse:
	case api.OpNot:
		l = atomsOf(formula.Sub(f, n.X))
	case api.OpAnd, api.OpOr, api.OpImp, api.OpIff:
		l = atomsOf(formula.Sub(f, n.X))
		for _, g := range atomsOf(formula.Sub(f, n.Y)) {
			if !contains(l, g) {
				l = append(l, g)
			}
		}
	default:
		l = [][]api.Node{f}
	}
	return l
}

// contains reports whether a list has an equal formula.
func contains(l [][]api.Node, f []api.Node) bool {
	return slices.ContainsFunc(l, func(g []api.Node) bool { return formula.Same(f, g) })
}

// isTautology is the chapter's tautology.
func isTautology(f []api.Node) bool {
	atoms := atomsOf(f)
	for v := range 1 << len(atoms) {
		atom := func(g []api.Node) bool {
			return v>>slices.IndexFunc(atoms, func(h []api.Node) bool { return formula.Same(g, h) })&1 == 1
		}
		if !holds(f, atom) {
			return false
		}
	}
	return true
}

// isIn reports whether all valuations of n facts that agree with a cube are in a table.
func isIn(c api.Cube, t uint64, n int) bool {
	for v := range 1 << n {
		if v&c.Care == c.Value && t>>v&1 == 0 {
			return false
		}
	}
	return true
}

// isPrime reports whether a cube is a prime implicant of a table.
func isPrime(c api.Cube, t uint64, n int) bool {
	if !isIn(c, t, n) {
		return false
	}
	for care := range c.Care {
		if care&^c.Care == 0 && isIn(api.Cube{Care: care, Value: c.Value & care}, t, n) {
			return false
		}
	}
	return true
}

// implicantsOf is the chapter's list of prime implicants.
func implicantsOf(t uint64, n int) []api.Cube {
	var l []api.Cube
	for care := range 1 << n {
		for value := range care + 1 {
			if c := (api.Cube{Care: care, Value: value}); value&^care == 0 && isPrime(c, t, n) {
				l = append(l, c)
			}
		}
	}
	return l
}

// propositional returns a node of each propositional operator that has operands.
func propositional() []api.Node {
	return []api.Node{{Op: api.OpNot}, {Op: api.OpAnd}, {Op: api.OpOr}, {Op: api.OpImp}, {Op: api.OpIff}}
}

// modal returns a node of each other operator, with their X and Y for two earlier nodes.
func modal() []api.Node {
	return []api.Node{
		{Op: api.OpKnow, I: 1}, {Op: api.OpPoss}, {Op: api.OpEvery, G: 3}, {Op: api.OpDist, G: 6}, {Op: api.OpCommon, G: 5, Y: 1},
		{Op: api.OpBelief, I: 2, Y: 1}, {Op: api.OpSafe, I: 3}, {Op: api.OpAnnounce, Y: 1}, {Op: api.OpAct, I: 2, E: 1},
		{Op: api.OpNext}, {Op: api.OpUntil, Y: 1}, {Op: api.OpPrev}, {Op: api.OpSince, Y: 1},
	}
}

// hasY reports whether an operator has two operands.
func hasY(op int) bool {
	return slices.Contains([]int{
		api.OpAnd, api.OpOr, api.OpImp, api.OpIff, api.OpCommon, api.OpBelief, api.OpAnnounce, api.OpUntil, api.OpSince,
	}, op)
}

// random returns a formula of facts below a number and n nodes with operators; some nodes may be equal, or not used.
func random(r *rand.Rand, n, facts int, operators []api.Node) []api.Node {
	f := []api.Node{{Op: api.OpTrue}, {Op: api.OpFalse}}
	for i := range facts {
		f = append(f, api.Node{Op: api.OpFact, I: i})
	}
	pick := func() int { return max(r.IntN(len(f)), r.IntN(len(f))) }
	for range n {
		node := operators[r.IntN(len(operators))]
		if node.X = pick(); hasY(node.Op) {
			node.Y = pick()
		}
		f = append(f, node)
	}
	return f
}

// doubled returns a formula of n nodes whose tree is twice as large with every second node; it has the facts 0 and 1.
func doubled(n int) []api.Node {
	f := []api.Node{{Op: api.OpFact}, {Op: api.OpFact, I: 1}, {Op: api.OpOr, X: 0, Y: 1}}
	for i := 3; i < n; i++ {
		f = append(f, api.Node{Op: []int{api.OpIff, api.OpAnd, api.OpImp}[i%3], X: i - 1, Y: i - 2})
	}
	return f
}

// badForms returns lists that are no formulas, by their errors.
func badForms() map[int][][]api.Node {
	return map[int][][]api.Node{
		api.ErrForm:  {nil, {}, {{Op: api.OpNot}}, {{Op: api.OpTrue, I: 1}}, {{Op: api.OpTrue}, {Op: api.OpOr, X: math.MinInt, Y: math.MaxInt}}},
		api.ErrOp:    {{{}}, {{Op: 22}}, {{Op: math.MinInt}, {Op: api.OpTrue}}},
		api.ErrRange: {{{Op: api.OpFact, I: 8}}, {{Op: api.OpFact, I: -1}, {Op: api.OpTrue}}, {{Op: api.OpTrue}, {Op: api.OpDist, G: 16}}},
		api.ErrLimit: {slices.Repeat([]api.Node{{Op: api.OpFact}}, 201), make([]api.Node, 4000)},
	}
}

// noNumbers returns numbers of facts for which there are no truth tables.
func noNumbers() []int {
	return []int{math.MinInt, -64, -1, 7, 8, 63, 64, 1 << 32, math.MaxInt}
}

// size returns the number of valuations of n facts.
func size(n int) int {
	return []int{1, 2, 4, 8, 16, 32, 64}[n]
}

// full returns the table of n facts with all valuations.
func full(n int) uint64 {
	t := uint64(0)
	for v := range size(n) {
		t |= 1 << v
	}
	return t
}

// tables returns tables of n facts: all of up to three facts, and otherwise many.
func tables(r *rand.Rand, n int) []uint64 {
	if n <= 3 {
		var l []uint64
		for t := range full(n) + 1 {
			l = append(l, t)
		}
		return l
	}
	l := []uint64{0, full(n), 1, 1 << (size(n) - 1), 0x6996966996696996 & full(n), 0x9669699669969669 & full(n), 0xfee8e880e8808000 & full(n)}
	for range 150 {
		t, u, s := r.Uint64(), r.Uint64(), r.Uint64()
		l = append(l, t&full(n), t&u&full(n), (t|u)&full(n), t&u&s&full(n), (t|u|s)&full(n))
	}
	return l
}
