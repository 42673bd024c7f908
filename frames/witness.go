package frames

import (
	"witting/api"
	"witting/formula"
	"witting/relation"
)

// Defects returns, for each agent and property of a logic that its relation lacks, the least worlds that show it: the errors of Close.
func Defects(m api.Model, logic int) ([]api.Defect, int) {
	properties, e := check(m, logic)
	if e != api.OK {
		return nil, e
	}
	var defects []api.Defect
	for agent, r := range m.Rel {
		for _, property := range properties {
			c, _ := conditionOf(property)
			if l := c.witness(r); l != nil {
				defects = append(defects, api.Defect{Agent: agent, Property: property, Worlds: l})
			}
		}
	}
	return defects, api.OK
}

// Axiom returns the axiom of a property, for an agent and a formula: the error of formula.Check, ErrArg, ErrRange, ErrLimit.
func Axiom(property, agent int, f []api.Node) ([]api.Node, int) {
	if e := formula.Check(f); e != api.OK {
		return nil, e
	}
	c, known := conditionOf(property)
	if !known {
		return nil, api.ErrArg
	}
	if agent < 0 || agent >= api.MaxAgents {
		return nil, api.ErrRange
	}
	axiom := c.axiom(agent, f)
	if len(axiom) == 0 {
		return nil, api.ErrLimit
	}
	return axiom, api.OK
}

// Counter returns a world and a set of worlds: if a fact is true exactly in this set, the axiom of a property is false at the world. Errors: that of relation.Check, ErrArg, ErrNone.
func Counter(r []uint64, property int) (world int, set uint64, e int) {
	if e = relation.Check(len(r), r); e != api.OK {
		return 0, 0, e
	}
	c, known := conditionOf(property)
	if !known {
		return 0, 0, api.ErrArg
	}
	l := c.witness(r)
	if l == nil {
		return 0, 0, api.ErrNone
	}
	return l[0], c.set(r, l), api.OK
}
