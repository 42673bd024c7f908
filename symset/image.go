package symset

import (
	"witting/api"
	"witting/bdd"
)

// Prime returns a set as a function of the next state.
func Prime(s api.Diagram) (api.Diagram, int) {
	if e := checkSet(s); e != api.OK {
		return api.Diagram{}, e
	}
	return moved(s, 1), api.OK
}

// moved returns a diagram that tests for each variable the one so many places after it.
// The variables keep their order, so that the result is as canonical as the diagram was.
func moved(d api.Diagram, places int) api.Diagram {
	nodes := make([]api.DiagramNode, len(d.Nodes))
	for i, node := range d.Nodes {
		nodes[i] = api.DiagramNode{Var: node.Var + places, Low: node.Low, High: node.High}
	}
	return api.Diagram{Vars: d.Vars, Nodes: nodes, Root: d.Root}
}

// Image returns the successors of the states of a set.
func Image(r, s api.Diagram) (api.Diagram, int) {
	if e := check(r, s); e != api.OK {
		return api.Diagram{}, e
	}
	return image(r, s)
}

// image is Image without the errors of the arguments.
func image(r, s api.Diagram) (api.Diagram, int) {
	var c calculation
	pairs := c.take(bdd.And(r, s))
	primed := c.take(bdd.Exists(pairs, within(r.Vars, currentVariables)))
	return c.result(moved(primed, -1))
}

// Pre returns the states with a successor in a set.
func Pre(r, s api.Diagram) (api.Diagram, int) {
	if e := check(r, s); e != api.OK {
		return api.Diagram{}, e
	}
	var c calculation
	pairs := c.take(bdd.And(r, moved(s, 1)))
	return c.result(c.take(bdd.Exists(pairs, within(r.Vars, nextVariables))))
}

// Box returns the states all of whose successors are in a set.
func Box(r, s api.Diagram) (api.Diagram, int) {
	if e := check(r, s); e != api.OK {
		return api.Diagram{}, e
	}
	return box(r, s)
}

// box is Box without the errors of the arguments.
func box(r, s api.Diagram) (api.Diagram, int) {
	var c calculation
	others := c.take(bdd.Not(r))
	pairs := c.take(bdd.Or(others, moved(s, 1)))
	return c.result(c.take(bdd.Forall(pairs, within(r.Vars, nextVariables))))
}

// Converse returns the reversed pairs.
func Converse(r api.Diagram) (api.Diagram, int) {
	if e := checkRelation(r); e != api.OK {
		return api.Diagram{}, e
	}
	var c calculation
	d := moved(r, 0)
	for i := 0; i < r.Vars && c.e == api.OK; i += 2 {
		d = c.take(swapped(d, i))
	}
	return c.result(d)
}

// swapped returns a diagram with the variables i and i + 1 in the places of each other.
func swapped(d api.Diagram, i int) (api.Diagram, int) {
	var c calculation
	at := func(first, second bool) api.Diagram {
		return c.take(bdd.Restrict(c.take(bdd.Restrict(d, i, first)), i+1, second))
	}
	first, second := c.take(bdd.Var(d.Vars, i)), c.take(bdd.Var(d.Vars, i+1))
	high := c.take(bdd.Ite(second, at(true, true), at(false, true)))
	low := c.take(bdd.Ite(second, at(true, false), at(false, false)))
	return c.result(c.take(bdd.Ite(first, high, low)))
}
