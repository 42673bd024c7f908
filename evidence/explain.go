package evidence

import (
	"slices"

	"witting/api"
	"witting/relation"
	"witting/worldset"
)

// explainer finds steps for true claims, each behind its premises.
type explainer struct {
	scene
	sets  []uint64 // for each node the worlds at which its formula holds
	steps []api.Reason
	found map[claim]int
}

// isTrue reports whether a claim is true.
func (x *explainer) isTrue(c claim) bool {
	return worldset.Has(x.sets[c.node], c.world) == c.holds
}

// areTrue reports whether all claims of a list are true.
func (x *explainer) areTrue(l []claim) bool {
	for _, c := range l {
		if !x.isTrue(c) {
			return false
		}
	}
	return true
}

// step returns the index of the step of a true claim.
func (x *explainer) step(c claim) int {
	if index, ok := x.found[c]; ok {
		return index
	}
	premises, set := x.premises(c)
	from := make([]int, 0, len(premises))
	for _, p := range premises {
		// A premise is about an operand, so that no step is its own premise.
		from = append(from, x.step(p))
	}
	x.found[c] = len(x.steps)
	x.steps = append(x.steps, api.Reason{World: c.world, Node: c.node, Holds: c.holds, From: from, Set: set})
	return x.found[c]
}

// premises returns true claims from which a true one follows, and the set of its step.
func (x *explainer) premises(c claim) ([]claim, uint64) {
	if x.nodes[c.node].Op == api.OpCommon {
		return x.commonPremises(c)
	}
	l := x.alternatives(c)
	return l[slices.IndexFunc(l, x.areTrue)], 0
}

// commonPremises is premises for common knowledge.
func (x *explainer) commonPremises(c claim) ([]claim, uint64) {
	n := x.nodes[c.node]
	leads := x.leads(n)
	for w := range leads {
		leads[w] &= x.sets[n.X]
	}
	if c.holds {
		// Only worlds where X does not hold lead out of what is reached.
		set := relation.Reach(leads, 1<<c.world)
		return x.closed(c, set), set
	}
	path := relation.Path(leads, 1<<c.world, ^x.sets[n.Y])
	l := []claim{}
	for _, w := range path[1:] {
		l = append(l, claim{w, n.X, true})
	}
	return append(l, claim{path[len(path)-1], n.Y, false}), 0
}
