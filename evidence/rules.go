package evidence

import (
	"slices"

	"witting/api"
	"witting/model"
	"witting/worldset"
)

// follows reports whether a claim follows from premises. The set of the step counts where common knowledge is claimed to hold.
func (s scene) follows(c claim, set uint64, premises []claim) bool {
	switch {
	case s.nodes[c.node].Op != api.OpCommon:
		return slices.ContainsFunc(s.alternatives(c), func(l []claim) bool { return slices.Equal(l, premises) })
	case c.holds:
		return slices.Equal(s.closed(c, set), premises)
	}
	return s.isPath(c, premises)
}

// alternatives returns the lists of premises from any one of which a claim follows. Claims of common knowledge have rules of their own.
func (s scene) alternatives(c claim) [][]claim {
	n := s.nodes[c.node]
	x, y := claim{c.world, n.X, c.holds}, claim{c.world, n.Y, c.holds}
	switch n.Op {
	case api.OpTrue, api.OpFalse, api.OpFact:
		if s.atom(n, c.world) == c.holds {
			return lists(true)
		}
	case api.OpNot:
		return lists(true, x.opposite())
	case api.OpAnd:
		return lists(c.holds, x, y)
	case api.OpOr:
		return lists(!c.holds, x, y)
	case api.OpImp:
		return lists(!c.holds, x.opposite(), y)
	case api.OpIff:
		yes := claim{c.world, n.X, true}
		return [][]claim{{yes, y}, {yes.opposite(), y.opposite()}}
	case api.OpKnow, api.OpEvery, api.OpDist:
		return lists(c.holds, s.successors(c)...)
	case api.OpPoss:
		return lists(!c.holds, s.successors(c)...)
	}
	return nil
}

// lists returns one list with all claims of l if they are needed together, and otherwise a list for each of them.
func lists(together bool, l ...claim) [][]claim {
	if together {
		return [][]claim{l}
	}
	single := [][]claim{}
	for _, c := range l {
		single = append(single, []claim{c})
	}
	return single
}

// atom returns the truth value of a node without operands.
func (s scene) atom(n api.Node, world int) bool {
	if n.Op == api.OpFact {
		return worldset.Has(s.model.Val[n.I], world)
	}
	return n.Op == api.OpTrue
}

// successors returns what a claim about knowledge says, with its truth value, about the operand at each successor.
func (s scene) successors(c claim) []claim {
	n := s.nodes[c.node]
	return claims(s.leads(n)[c.world], n.X, c.holds)
}

// claims returns, for each world of a set, the claim about a node there.
func claims(set uint64, node int, holds bool) []claim {
	l := []claim{}
	for _, w := range worldset.Members(set) {
		l = append(l, claim{w, node, holds})
	}
	return l
}

// leads returns the relation of a modal node: that of its agent, of some agent of its group, or of all of them.
func (s scene) leads(n api.Node) []uint64 {
	switch n.Op {
	case api.OpKnow, api.OpPoss:
		return s.model.Rel[n.I]
	case api.OpDist:
		return model.Meet(s.model, n.G)
	}
	return model.Group(s.model, n.G)
}

// closed returns the premises that show by a set of worlds that common knowledge holds: no path from the world of the claim leaves the set.
func (s scene) closed(c claim, set uint64) []claim {
	n := s.nodes[c.node]
	leads := s.leads(n)
	next := leads[c.world]
	for _, w := range worldset.Members(set) {
		next |= leads[w]
	}
	return append(claims(set, n.Y, true), claims(next&^set, n.X, false)...)
}

// isPath reports whether premises show a path of worlds to one that refutes common knowledge.
func (s scene) isPath(c claim, premises []claim) bool {
	n := s.nodes[c.node]
	last := len(premises) - 1
	if last < 1 {
		return false
	}
	leads, at := s.leads(n), c.world
	for _, p := range premises[:last] {
		if p != (claim{p.world, n.X, true}) || !worldset.Has(leads[at], p.world) {
			return false
		}
		at = p.world
	}
	return premises[last] == claim{at, n.Y, false}
}
