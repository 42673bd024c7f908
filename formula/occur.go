package formula

import (
	"math/bits"

	"witting/api"
)

// Depth returns the modal depth, or -1.
func Depth(f []api.Node) int {
	if !valid(f) {
		return -1
	}
	list := canonical(f)
	depths := make([]int, len(list))
	for i, n := range list {
		// An operand that is not used is 0, too, which does not count: node 0 has no operands, and so the depth 0.
		depths[i] = max(depths[n.X], depths[n.Y])
		if isModal(n.Op) {
			depths[i]++
		}
	}
	return depths[len(list)-1]
}

// isModal reports whether an operator adds to the depth; announcements and events do not.
func isModal(op int) bool {
	return op >= api.OpKnow && op <= api.OpSafe || op >= api.OpNext && op <= api.OpSince
}

// Frags returns the fragments of the operators that occur.
func Frags(f []api.Node) int {
	return collect(f, func(n api.Node) int { return fragOf(n.Op) })
}

// fragOf returns the fragment of an operator, 0 for a propositional one.
func fragOf(op int) int {
	switch op {
	case api.OpKnow, api.OpPoss:
		return api.FragKnow
	case api.OpEvery:
		return api.FragEvery
	case api.OpDist:
		return api.FragDist
	case api.OpCommon:
		return api.FragCommon
	case api.OpBelief:
		return api.FragBelief
	case api.OpSafe:
		return api.FragSafe
	case api.OpAnnounce:
		return api.FragAnnounce
	case api.OpAct:
		return api.FragAct
	case api.OpNext, api.OpUntil, api.OpPrev, api.OpSince:
		return api.FragTime
	}
	return 0
}

// Facts returns the mask of the facts that occur.
func Facts(f []api.Node) int {
	return collect(f, factsOf)
}

// factsOf returns the mask of the fact of a node.
func factsOf(n api.Node) int {
	if n.Op == api.OpFact {
		return 1 << n.I
	}
	return 0
}

// Agents returns the mask of the agents that occur, also in groups.
func Agents(f []api.Node) int {
	return collect(f, agentsOf)
}

// agentsOf returns the mask of the agents of a node.
func agentsOf(n api.Node) int {
	switch n.Op {
	case api.OpKnow, api.OpPoss, api.OpSafe, api.OpBelief:
		return 1 << n.I
	}
	return n.G
}

// collect returns the union of the masks of the nodes of the canonical list.
func collect(f []api.Node, maskOf func(n api.Node) int) int {
	mask := 0
	for _, n := range Compact(f) {
		mask |= maskOf(n)
	}
	return mask
}

// Fits reports whether all agents and facts of a formula are below two numbers.
func Fits(f []api.Node, agents, facts int) bool {
	return valid(f) && allBelow(Agents(f), agents) && allBelow(Facts(f), facts)
}

// allBelow reports whether all elements of a mask are below a limit; nothing is below every one, also a negative one.
func allBelow(mask, limit int) bool {
	return mask == 0 || bits.Len(uint(mask)) <= limit
}
