package announce

import (
	"slices"

	"witting/api"
	"witting/checker"
)

// place is a world of a model.
type place struct {
	model api.Model
	world int
}

// announced returns the place of a world after an announcement: the errors of checker.At, ErrFalse.
func announced(m api.Model, world int, f []api.Node) (place, int) {
	holds, e := checker.At(m, world, f)
	if e != api.OK {
		return place{}, e
	}
	if !holds {
		return place{}, api.ErrFalse
	}
	after, worlds, e := Update(m, f)
	return place{model: after, world: slices.Index(worlds, world)}, e
}

// knows reports whether an agent knows at a place that a formula holds: the errors of checker.Holds.
func (p place) knows(agent int, f []api.Node) (bool, int) {
	// The formula that it is known may have too many nodes, so that it is not formed.
	set, e := checker.Holds(p.model, f)
	return p.model.Rel[agent][p.world]&^set == 0, e
}

// Successful reports whether a formula is still true at a world after its announcement: the errors of checker.At, ErrFalse.
func Successful(m api.Model, world int, f []api.Node) (bool, int) {
	after, e := announced(m, world, f)
	if e != api.OK {
		return false, e
	}
	return checker.At(after.model, after.world, f)
}

// Change returns the positions of the formulas that an agent knows at a world after an announcement but not before, and the other way round: the errors of Successful, ErrRange, those of checker.Holds.
func Change(m api.Model, world int, f []api.Node, agent int, l [][]api.Node) ([]int, []int, int) {
	before := place{model: m, world: world}
	after, e := announced(m, world, f)
	if e != api.OK {
		return nil, nil, e
	}
	if agent < 0 || agent >= len(m.Rel) {
		return nil, nil, api.ErrRange
	}
	var learnt, lost []int
	for i, g := range l {
		knew, e := before.knows(agent, g)
		if e != api.OK {
			return nil, nil, e
		}
		// The model after the announcement has the same agents and facts, so that there is no other error.
		knows, _ := after.knows(agent, g)
		switch {
		case knows && !knew:
			learnt = append(learnt, i)
		case knew && !knows:
			lost = append(lost, i)
		}
	}
	return learnt, lost, api.OK
}
