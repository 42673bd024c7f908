package rewrite

import (
	"math/rand/v2"
	"slices"

	"witting/api"
	"witting/formula"
)

// built returns the formula of a node with operands, by the constructor of its operator.
func built(n api.Node, x, y []api.Node) []api.Node {
	switch n.Op {
	case api.OpTrue:
		return formula.True()
	case api.OpFalse:
		return formula.False()
	case api.OpFact:
		return formula.Fact(n.I)
	case api.OpNot:
		return formula.Not(x)
	case api.OpAnd:
		return formula.And(x, y)
	case api.OpOr:
		return formula.Or(x, y)
	case api.OpImp:
		return formula.Imp(x, y)
	case api.OpIff:
		return formula.Iff(x, y)
	case api.OpKnow:
		return formula.Know(n.I, x)
	case api.OpPoss:
		return formula.Poss(n.I, x)
	}
	return builtLater(n, x, y)
}

// builtLater is built for the operators from OpEvery on.
func builtLater(n api.Node, x, y []api.Node) []api.Node {
	switch n.Op {
	case api.OpEvery:
		return formula.Every(n.G, x)
	case api.OpDist:
		return formula.Dist(n.G, x)
	case api.OpCommon:
		return formula.Common(n.G, x, y)
	case api.OpBelief:
		return formula.Belief(n.I, x, y)
	case api.OpSafe:
		return formula.Safe(n.I, x)
	case api.OpAnnounce:
		return formula.Announce(x, y)
	case api.OpAct:
		return formula.Act(n.I, n.E, x)
	case api.OpNext:
		return formula.Next(x)
	case api.OpUntil:
		return formula.Until(x, y)
	case api.OpPrev:
		return formula.Prev(x)
	case api.OpSince:
		return formula.Since(x, y)
	}
	return nil
}

// nodes returns a node of each operator; all numbers that it uses are those of the agents, facts and events 0 and 1.
func nodes() []api.Node {
	var l []api.Node
	for op := api.OpTrue; op <= api.OpSince; op++ {
		n := api.Node{Op: op}
		switch op {
		case api.OpFact, api.OpKnow, api.OpPoss, api.OpSafe, api.OpBelief:
			n.I = 1
		case api.OpEvery, api.OpDist, api.OpCommon:
			n.G = 3
		case api.OpAct:
			n.I, n.E = 2, 1
		}
		l = append(l, n)
	}
	return l
}

// parts returns the last node of a formula, and its operands, where it has them.
func parts(f []api.Node) (n api.Node, x, y []api.Node) {
	n = f[len(f)-1]
	return n, formula.Sub(f, n.X), formula.Sub(f, n.Y)
}

// normal is the chapter's Nnf, or N.
func normal(f []api.Node, negated bool) []api.Node {
	n, x, y := parts(f)
	if negated {
		return normalNot(n, x, y)
	}
	switch n.Op {
	case api.OpTrue, api.OpFalse, api.OpFact:
		return formula.Compact(f)
	case api.OpNot:
		return normal(x, true)
	case api.OpImp:
		return formula.Or(normal(x, true), normal(y, false))
	case api.OpIff:
		return formula.And(formula.Or(normal(x, true), normal(y, false)), formula.Or(normal(x, false), normal(y, true)))
	}
	return built(n, normal(x, false), normal(y, false))
}

// normalNot is the chapter's N.
func normalNot(n api.Node, x, y []api.Node) []api.Node {
	switch n.Op {
	case api.OpTrue:
		return formula.False()
	case api.OpFalse:
		return formula.True()
	case api.OpFact:
		return formula.Not(formula.Fact(n.I))
	case api.OpNot:
		return normal(x, false)
	case api.OpAnd:
		return formula.Or(normal(x, true), normal(y, true))
	case api.OpOr:
		return formula.And(normal(x, true), normal(y, true))
	case api.OpImp:
		return formula.And(normal(x, false), normal(y, true))
	case api.OpIff:
		return formula.Or(formula.And(normal(x, false), normal(y, true)), formula.And(normal(x, true), normal(y, false)))
	case api.OpKnow:
		return formula.Poss(n.I, normal(x, true))
	case api.OpPoss:
		return formula.Know(n.I, normal(x, true))
	}
	return formula.Not(built(n, normal(x, false), normal(y, false)))
}

// negate is the chapter's Negate.
func negate(f []api.Node) []api.Node {
	n, x, _ := parts(f)
	if n.Op == api.OpNot {
		return x
	}
	return formula.Not(f)
}

// core is the chapter's Core.
func core(f []api.Node) []api.Node {
	n, x, y := parts(f)
	switch n.Op {
	case api.OpFalse, api.OpFact:
		return formula.Compact(f)
	case api.OpTrue:
		return formula.Not(formula.False())
	}
	x, y = core(x), core(y)
	implied := func(x, y []api.Node) []api.Node { return formula.Not(formula.And(x, formula.Not(y))) }
	switch n.Op {
	case api.OpOr:
		return formula.Not(formula.And(formula.Not(x), formula.Not(y)))
	case api.OpImp:
		return implied(x, y)
	case api.OpIff:
		return formula.And(implied(x, y), implied(y, x))
	case api.OpPoss:
		return formula.Not(formula.Know(n.I, formula.Not(x)))
	}
	return built(n, x, y)
}

// subst is the chapter's Subst.
func subst(f []api.Node, to [][]api.Node) []api.Node {
	n, x, y := parts(f)
	switch {
	case n.Op == api.OpFact && n.I < len(to):
		return formula.Compact(to[n.I])
	case n.Op <= api.OpFact:
		return formula.Compact(f)
	}
	return built(n, subst(x, to), subst(y, to))
}

// is reports whether a formula is a constant.
func is(op int, f []api.Node) bool {
	return len(f) == 1 && f[0].Op == op
}

// simplified is the chapter's Simplify.
func simplified(f []api.Node) []api.Node {
	n, x, y := parts(f)
	if n.Op <= api.OpFact {
		return formula.Compact(f)
	}
	x, y = simplified(x), simplified(y)
	g := built(n, x, y)
	switch n.Op {
	case api.OpNot:
		return simplifiedNot(x, g)
	case api.OpAnd, api.OpOr:
		return simplifiedJoin(n, x, y, g)
	case api.OpImp, api.OpIff:
		return simplifiedArrow(n, x, y, g)
	case api.OpKnow, api.OpEvery, api.OpDist, api.OpSafe, api.OpAct:
		if is(api.OpTrue, x) {
			return formula.True()
		}
	case api.OpPoss:
		if is(api.OpFalse, x) {
			return formula.False()
		}
	case api.OpCommon, api.OpBelief, api.OpAnnounce:
		if is(api.OpFalse, x) || is(api.OpTrue, y) {
			return formula.True()
		}
		if n.Op == api.OpAnnounce && is(api.OpTrue, x) {
			return y
		}
	}
	return g
}

// opposite reports whether one formula is Not of the other.
func opposite(x, y []api.Node) bool {
	return formula.Same(x, formula.Not(y)) || formula.Same(y, formula.Not(x))
}

func simplifiedNot(x, g []api.Node) []api.Node {
	switch {
	case is(api.OpTrue, x):
		return formula.False()
	case is(api.OpFalse, x):
		return formula.True()
	case x[len(x)-1].Op == api.OpNot:
		return negate(x)
	}
	return g
}

func simplifiedJoin(n api.Node, x, y, g []api.Node) []api.Node {
	one, zero := api.OpTrue, api.OpFalse
	if n.Op == api.OpOr {
		one, zero = zero, one
	}
	switch {
	case is(zero, x) || is(zero, y):
		return []api.Node{{Op: zero}}
	case is(one, x):
		return y
	case is(one, y) || formula.Same(x, y):
		return x
	case opposite(x, y):
		return []api.Node{{Op: zero}}
	}
	return g
}

func simplifiedArrow(n api.Node, x, y, g []api.Node) []api.Node {
	imp := n.Op == api.OpImp
	switch {
	case imp && (is(api.OpFalse, x) || is(api.OpTrue, y)) || formula.Same(x, y):
		return formula.True()
	case !imp && opposite(x, y):
		return formula.False()
	case is(api.OpTrue, x):
		return y
	case !imp && is(api.OpTrue, y):
		return x
	case !imp && is(api.OpFalse, x):
		return negate(y)
	case is(api.OpFalse, y):
		return negate(x)
	}
	return g
}

// random returns a formula of some operators, which uses its later nodes more than the first ones.
func random(r *rand.Rand, length int, operators []api.Node) []api.Node {
	f := []api.Node{{Op: api.OpFact, I: r.IntN(3)}}
	for i := 1; i < length; i++ {
		n := operators[r.IntN(len(operators))]
		x, y := max(r.IntN(i), r.IntN(i)), r.IntN(i)
		if r.IntN(4) == 0 {
			n = api.Node{Op: api.OpFact, I: r.IntN(3)}
		}
		if r.IntN(2) == 0 {
			x, y = y, x
		}
		n.X, n.Y = usedOperands(n.Op, x, y)
		f = append(f, n)
	}
	return f
}

// usedOperands returns the operands that an operator uses, and 0 for the others.
func usedOperands(op, x, y int) (int, int) {
	f := built(api.Node{Op: op, G: 1}, formula.Fact(0), formula.Fact(1))
	n := f[len(f)-1]
	switch {
	case slices.Contains([]int{api.OpTrue, api.OpFalse, api.OpFact}, n.Op):
		return 0, 0
	case n.Y == 0:
		return x, 0
	}
	return x, y
}
