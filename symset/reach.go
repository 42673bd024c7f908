package symset

import (
	"slices"

	"witting/api"
	"witting/bdd"
)

// Reach returns the states that one or more steps lead to from a set.
func Reach(r, s api.Diagram) (api.Diagram, int) {
	if e := check(r, s); e != api.OK {
		return api.Diagram{}, e
	}
	return fixedPoint(r.Vars, false, func(reached api.Diagram) (api.Diagram, int) {
		var c calculation
		from := c.take(bdd.Or(s, reached))
		return c.result(c.take(image(r, from)))
	})
}

// Paths returns the states from which all paths along states of a condition lead to states of a set.
func Paths(r, condition, s api.Diagram) (api.Diagram, int) {
	if e := check(r, condition, s); e != api.OK {
		return api.Diagram{}, e
	}
	return fixedPoint(r.Vars, true, func(good api.Diagram) (api.Diagram, int) {
		var c calculation
		goesOn := c.take(bdd.And(s, good))
		always := c.take(bdd.Const(r.Vars, true))
		allowed := c.take(bdd.Ite(condition, goesOn, always))
		return c.result(c.take(box(r, allowed)))
	})
}

// fixedPoint repeats a step from a constant on until nothing changes. The step is monotone:
// from the constant false it leads to its least fixed point, from the constant true to its greatest one.
func fixedPoint(vars int, from bool, step func(d api.Diagram) (api.Diagram, int)) (api.Diagram, int) {
	d, e := bdd.Const(vars, from)
	for e == api.OK {
		before := d
		if d, e = step(before); equal(d, before) {
			break
		}
	}
	return d, e
}

// equal reports whether two canonical diagrams of the same variables are the same function.
func equal(a, b api.Diagram) bool {
	return a.Root == b.Root && slices.Equal(a.Nodes, b.Nodes)
}
