package frames

import (
	"witting/api"
	"witting/formula"
	"witting/relation"
	"witting/worldset"
)

// A condition is a property of relations, with what shows that a relation lacks it.
type condition struct {
	property int
	axiom    func(agent int, f []api.Node) []api.Node
	length   int                              // of the lists of worlds that show that a relation lacks the property
	shows    func(r []uint64, l []int) bool   // whether a list of worlds shows it
	set      func(r []uint64, l []int) uint64 // for such a list: a fact that is true exactly here makes the axiom false at the first world
}

// conditionOf returns the condition of a property, and whether there is such a property.
func conditionOf(property int) (condition, bool) {
	know, poss, imp := formula.Know, formula.Poss, formula.Imp
	for _, c := range []condition{
		{
			property: api.PropSerial,
			axiom:    func(a int, f []api.Node) []api.Node { return imp(know(a, f), poss(a, f)) },
			length:   1,
			shows:    func(r []uint64, l []int) bool { return r[l[0]] == 0 },
			set:      func([]uint64, []int) uint64 { return 0 },
		},
		{
			property: api.PropReflexive,
			axiom:    func(a int, f []api.Node) []api.Node { return imp(know(a, f), f) },
			length:   1,
			shows:    func(r []uint64, l []int) bool { return !leads(r, l[0], l[0]) },
			set:      func(r []uint64, l []int) uint64 { return r[l[0]] },
		},
		{
			property: api.PropSymmetric,
			axiom:    func(a int, f []api.Node) []api.Node { return imp(f, know(a, poss(a, f))) },
			length:   2,
			shows:    func(r []uint64, l []int) bool { return leads(r, l[0], l[1]) && !leads(r, l[1], l[0]) },
			set:      func(_ []uint64, l []int) uint64 { return 1 << l[0] },
		},
		{
			property: api.PropTransitive,
			axiom:    func(a int, f []api.Node) []api.Node { return imp(know(a, f), know(a, know(a, f))) },
			length:   3,
			shows: func(r []uint64, l []int) bool {
				return leads(r, l[0], l[1]) && leads(r, l[1], l[2]) && !leads(r, l[0], l[2])
			},
			set: func(r []uint64, l []int) uint64 { return r[l[0]] },
		},
		{
			property: api.PropEuclidean,
			axiom:    func(a int, f []api.Node) []api.Node { return imp(poss(a, f), know(a, poss(a, f))) },
			length:   3,
			shows: func(r []uint64, l []int) bool {
				return leads(r, l[0], l[1]) && leads(r, l[0], l[2]) && !leads(r, l[1], l[2])
			},
			set: func(_ []uint64, l []int) uint64 { return 1 << l[2] },
		},
	} {
		if c.property == property {
			return c, true
		}
	}
	return condition{}, false
}

// leads reports whether v is a successor of w.
func leads(r []uint64, w, v int) bool {
	return worldset.Has(r[w], v)
}

// witness returns the lexicographically least list of worlds that shows that a valid relation lacks the property, or nil if it has it.
func (c condition) witness(r []uint64) []int {
	// This is quick where the search would go through all lists.
	if relation.Has(r, c.property) {
		return nil
	}
	l := make([]int, c.length)
next:
	for !c.shows(r, l) {
		// The next list counts up the last world, or an earlier one if those behind it cannot go on.
		for i := len(l) - 1; i >= 0; i-- {
			if l[i]+1 < len(r) {
				l[i]++
				continue next
			}
			l[i] = 0
		}
		return nil
	}
	return l
}
