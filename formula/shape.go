package formula

import "witting/api"

// allAgents is the group of all agents, the greatest one.
const allAgents = 1<<api.MaxAgents - 1

// shape says which fields an operator uses: a limit is 0 for a field that it does not use.
type shape struct {
	numbers  int // I is below it
	events   int // E is below it
	groups   int // G is from 1 to it
	operands int // 1 for X, 2 for X and Y
}

// shapeOf returns the shape of an operator, and whether there is such an operator.
func shapeOf(op int) (shape, bool) {
	switch op {
	case api.OpTrue, api.OpFalse:
		return shape{}, true
	case api.OpFact:
		return shape{numbers: api.MaxFacts}, true
	case api.OpNot, api.OpNext, api.OpPrev:
		return shape{operands: 1}, true
	case api.OpAnd, api.OpOr, api.OpImp, api.OpIff, api.OpAnnounce, api.OpUntil, api.OpSince:
		return shape{operands: 2}, true
	case api.OpKnow, api.OpPoss, api.OpSafe:
		return shape{numbers: api.MaxAgents, operands: 1}, true
	case api.OpEvery, api.OpDist:
		return shape{groups: allAgents, operands: 1}, true
	case api.OpCommon:
		return shape{groups: allAgents, operands: 2}, true
	case api.OpBelief:
		return shape{numbers: api.MaxAgents, operands: 2}, true
	case api.OpAct:
		return shape{numbers: api.MaxActions, events: api.MaxEvents, operands: 1}, true
	}
	return shape{}, false
}

// hasOperands reports whether the operands that a node uses are earlier nodes.
func (s shape) hasOperands(n api.Node, index int) bool {
	return (s.operands < 1 || isBelow(n.X, index)) && (s.operands < 2 || isBelow(n.Y, index))
}

// leavesRest reports whether the fields that a node does not use are 0.
func (s shape) leavesRest(n api.Node) bool {
	return (s.operands > 0 || n.X == 0) && (s.operands > 1 || n.Y == 0) &&
		(s.numbers > 0 || n.I == 0) && (s.events > 0 || n.E == 0) && (s.groups > 0 || n.G == 0)
}

// inRange reports whether the numbers that a node uses are in their ranges.
func (s shape) inRange(n api.Node) bool {
	return (s.numbers == 0 || isBelow(n.I, s.numbers)) && (s.events == 0 || isBelow(n.E, s.events)) &&
		(s.groups == 0 || n.G >= 1 && n.G <= s.groups)
}

// isBelow reports whether a number is from 0 to limit - 1.
func isBelow(n, limit int) bool {
	return n >= 0 && n < limit
}

// renumber returns a node with other numbers for the operands that it uses, X first.
func renumber(n api.Node, to func(operand int) int) api.Node {
	s, _ := shapeOf(n.Op)
	if s.operands > 0 {
		n.X = to(n.X)
	}
	if s.operands > 1 {
		n.Y = to(n.Y)
	}
	return n
}
