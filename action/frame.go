package action

import (
	"witting/api"
	"witting/formula"
	"witting/frames"
	"witting/model"
)

// frame returns the events of an action model and their relations as a model without facts; if the action model is not valid, no valid model.
func frame(a api.Action) api.Model {
	if check(a) != api.OK {
		return api.Model{}
	}
	return api.Model{Worlds: len(a.Pre), Rel: a.Rel}
}

// In reports whether the relations of an action model satisfy the conditions of a logic.
func In(a api.Action, logic int) bool {
	return frames.In(frame(a), logic)
}

// Group returns the union of the relations of a group.
func Group(a api.Action, group int) []uint64 {
	return model.Group(frame(a), group)
}

// Meet returns the intersection of the relations of a group.
func Meet(a api.Action, group int) []uint64 {
	return model.Meet(frame(a), group)
}

// Generated returns the part that can be reached from an event, with the events that it contains.
func Generated(a api.Action, event int) (api.Action, []int, int) {
	if e := checkEvent(a, event); e != api.OK {
		return api.Action{}, nil, e
	}
	reached, _ := model.Generated(frame(a), 1<<event)
	restricted, events, _ := model.Restrict(frame(a), reached)
	part := api.Action{Rel: restricted.Rel}
	for _, old := range events {
		part.Pre = append(part.Pre, formula.Compact(a.Pre[old]))
		part.Post = append(part.Post, compactPost(a.Post[old]))
	}
	return part, events, api.OK
}

// compactPost returns a list of assignments with canonical lists.
func compactPost(l []api.Assign) []api.Assign {
	var compact []api.Assign
	for _, assign := range l {
		compact = append(compact, api.Assign{Fact: assign.Fact, To: formula.Compact(assign.To)})
	}
	return compact
}
