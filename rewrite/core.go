package rewrite

import "witting/api"

// core returns the place of a node, whose operands have few operators, expressed with few operators.
func (b *builder) core(n api.Node) int {
	x, y := n.X, n.Y
	switch n.Op {
	case api.OpTrue:
		return b.not(b.join(api.OpFalse, 0, 0))
	case api.OpOr:
		// Or(x, y) is written as Imp(Not x, y) is.
		x = b.not(x)
		fallthrough
	case api.OpImp:
		return b.without(x, y)
	case api.OpIff:
		return b.join(api.OpAnd, b.without(x, y), b.without(y, x))
	case api.OpPoss:
		return b.not(b.add(api.Node{Op: api.OpKnow, I: n.I, X: b.not(x)}))
	}
	return b.add(n)
}

// without returns the place of the formula that x does not hold without y: Not And(x, Not y).
func (b *builder) without(x, y int) int {
	return b.not(b.join(api.OpAnd, x, b.not(y)))
}
