package rewrite

import "witting/api"

// simplifier has the rules of simplification.
type simplifier struct {
	*builder
}

// simplified returns the place to which a node with simplified operands is simplified.
func (r *simplifier) simplified(n api.Node) int {
	x, y := n.X, n.Y
	switch n.Op {
	case api.OpNot:
		return r.simplifiedNot(n)
	case api.OpAnd:
		return r.simplifiedJoin(n, api.OpTrue, api.OpFalse)
	case api.OpOr:
		return r.simplifiedJoin(n, api.OpFalse, api.OpTrue)
	case api.OpImp:
		return r.simplifiedImp(n)
	case api.OpIff:
		return r.simplifiedIff(n)
	case api.OpPoss:
		if r.is(api.OpFalse, x) {
			return x
		}
	case api.OpKnow, api.OpEvery, api.OpDist, api.OpSafe, api.OpAct:
		if r.is(api.OpTrue, x) {
			return x
		}
	case api.OpAnnounce:
		if r.is(api.OpTrue, x) {
			return y
		}
		fallthrough
	case api.OpCommon, api.OpBelief:
		if r.is(api.OpFalse, x) || r.is(api.OpTrue, y) {
			return r.constant(api.OpTrue)
		}
	}
	return r.add(n)
}

// is reports whether x is the constant True or False.
func (r *simplifier) is(constant, x int) bool {
	return r.list[x].Op == constant
}

// constant returns the place of True or False.
func (r *simplifier) constant(op int) int {
	return r.join(op, 0, 0)
}

// areOpposite reports whether one of two formulas is Not of the other.
func (r *simplifier) areOpposite(x, y int) bool {
	return r.isNot(x, y) || r.isNot(y, x)
}

// simplifiedNot applies the rules for Not.
func (r *simplifier) simplifiedNot(n api.Node) int {
	switch {
	case r.is(api.OpTrue, n.X):
		return r.constant(api.OpFalse)
	case r.is(api.OpFalse, n.X):
		return r.constant(api.OpTrue)
	}
	return r.negation(n.X)
}

// simplifiedJoin applies the rules for And and Or: one constant does not change the other operand, and the other constant decides.
func (r *simplifier) simplifiedJoin(n api.Node, neutral, deciding int) int {
	x, y := n.X, n.Y
	switch {
	case r.is(deciding, x) || r.is(deciding, y):
		return r.constant(deciding)
	case r.is(neutral, x):
		return y
	case r.is(neutral, y) || x == y:
		return x
	case r.areOpposite(x, y):
		return r.constant(deciding)
	}
	return r.add(n)
}

// simplifiedImp applies the rules for Imp.
func (r *simplifier) simplifiedImp(n api.Node) int {
	x, y := n.X, n.Y
	switch {
	case r.is(api.OpFalse, x) || r.is(api.OpTrue, y) || x == y:
		return r.constant(api.OpTrue)
	case r.is(api.OpTrue, x):
		return y
	case r.is(api.OpFalse, y):
		return r.negation(x)
	}
	return r.add(n)
}

// simplifiedIff applies the rules for Iff.
func (r *simplifier) simplifiedIff(n api.Node) int {
	x, y := n.X, n.Y
	switch {
	case x == y:
		return r.constant(api.OpTrue)
	case r.areOpposite(x, y):
		return r.constant(api.OpFalse)
	case r.is(api.OpTrue, x):
		return y
	case r.is(api.OpTrue, y):
		return x
	case r.is(api.OpFalse, x):
		return r.negation(y)
	case r.is(api.OpFalse, y):
		return r.negation(x)
	}
	return r.add(n)
}
