package formula

import "witting/api"

// build returns the canonical list of a node with operands, of which the first is its X and the second its Y, or nil.
func build(n api.Node, operands ...[]api.Node) []api.Node {
	if s, _ := shapeOf(n.Op); !s.inRange(n) {
		return nil
	}
	var list []api.Node
	var ends [2]int
	for i, f := range operands {
		if !valid(f) {
			return nil
		}
		list = appendShifted(list, f)
		ends[i] = len(list) - 1
	}
	n.X, n.Y = ends[0], ends[1]
	// The operands share nodes in the canonical list, so that only its length counts for the limit.
	list = canonical(append(list, n))
	if len(list) > api.MaxNodes {
		return nil
	}
	return list
}

// appendShifted appends the nodes of a formula, with operands at their new places.
func appendShifted(list, f []api.Node) []api.Node {
	shift := len(list)
	for _, n := range f {
		list = append(list, renumber(n, func(operand int) int { return operand + shift }))
	}
	return list
}

// True returns the formula that is always true.
func True() []api.Node {
	return build(api.Node{Op: api.OpTrue})
}

// False returns the formula that is never true.
func False() []api.Node {
	return build(api.Node{Op: api.OpFalse})
}

// Fact returns the formula of a fact, or nil.
func Fact(i int) []api.Node {
	return build(api.Node{Op: api.OpFact, I: i})
}

// Not returns the negation, or nil.
func Not(f []api.Node) []api.Node {
	return build(api.Node{Op: api.OpNot}, f)
}

// And returns the conjunction, or nil.
func And(f, g []api.Node) []api.Node {
	return build(api.Node{Op: api.OpAnd}, f, g)
}

// Or returns the disjunction, or nil.
func Or(f, g []api.Node) []api.Node {
	return build(api.Node{Op: api.OpOr}, f, g)
}

// Imp returns the implication, or nil.
func Imp(f, g []api.Node) []api.Node {
	return build(api.Node{Op: api.OpImp}, f, g)
}

// Iff returns the equivalence, or nil.
func Iff(f, g []api.Node) []api.Node {
	return build(api.Node{Op: api.OpIff}, f, g)
}

// Know returns the formula that an agent knows f, or nil.
func Know(agent int, f []api.Node) []api.Node {
	return build(api.Node{Op: api.OpKnow, I: agent}, f)
}

// Poss returns the formula that an agent considers f possible, or nil.
func Poss(agent int, f []api.Node) []api.Node {
	return build(api.Node{Op: api.OpPoss, I: agent}, f)
}

// Every returns the formula that everybody in a group knows f, or nil.
func Every(group int, f []api.Node) []api.Node {
	return build(api.Node{Op: api.OpEvery, G: group}, f)
}

// Dist returns the formula that f is distributed knowledge, or nil.
func Dist(group int, f []api.Node) []api.Node {
	return build(api.Node{Op: api.OpDist, G: group}, f)
}

// Common returns relativized common knowledge of f along worlds of the condition, or nil.
func Common(group int, condition, f []api.Node) []api.Node {
	return build(api.Node{Op: api.OpCommon, G: group}, condition, f)
}

// Belief returns conditional belief, or nil.
func Belief(agent int, condition, f []api.Node) []api.Node {
	return build(api.Node{Op: api.OpBelief, I: agent}, condition, f)
}

// Safe returns safe belief, or nil.
func Safe(agent int, f []api.Node) []api.Node {
	return build(api.Node{Op: api.OpSafe, I: agent}, f)
}

// Announce returns the formula that after the announcement of f, g holds, or nil.
func Announce(f, g []api.Node) []api.Node {
	return build(api.Node{Op: api.OpAnnounce}, f, g)
}

// Act returns the formula that after an event of an action model f holds, or nil.
func Act(action, event int, f []api.Node) []api.Node {
	return build(api.Node{Op: api.OpAct, I: action, E: event}, f)
}

// Next returns the formula that f holds in the next state, or nil.
func Next(f []api.Node) []api.Node {
	return build(api.Node{Op: api.OpNext}, f)
}

// Until returns the formula that f holds until g holds, or nil.
func Until(f, g []api.Node) []api.Node {
	return build(api.Node{Op: api.OpUntil}, f, g)
}

// Prev returns the formula that f held in the previous state, or nil.
func Prev(f []api.Node) []api.Node {
	return build(api.Node{Op: api.OpPrev}, f)
}

// Since returns the formula that f has held since g held, or nil.
func Since(f, g []api.Node) []api.Node {
	return build(api.Node{Op: api.OpSince}, f, g)
}

// All returns the conjunction of formulas, or nil.
func All(l [][]api.Node) []api.Node {
	return fold(l, True(), And)
}

// Any returns the disjunction of formulas, or nil.
func Any(l [][]api.Node) []api.Node {
	return fold(l, False(), Or)
}

// fold joins formulas from the left, or returns the one for an empty list.
func fold(l [][]api.Node, empty []api.Node, join func(f, g []api.Node) []api.Node) []api.Node {
	if len(l) == 0 {
		return empty
	}
	f := Compact(l[0])
	for _, g := range l[1:] {
		f = join(f, g)
	}
	return f
}
