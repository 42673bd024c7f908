package action_test

import (
	"slices"

	"witting/api"
	"witting/formula"
)

// sameFormula reports whether two lists have the same canonical list.
func sameFormula(a, b []api.Node) bool {
	return slices.Equal(formula.Compact(a), formula.Compact(b))
}

// sameLists reports whether two valid action models have equal fields; formulas are compared with a function.
func sameLists(a, b api.Action, same func(f, g []api.Node) bool) bool {
	if len(a.Pre) != len(b.Pre) || len(a.Post) != len(b.Post) || len(a.Rel) != len(b.Rel) {
		return false
	}
	for e := range a.Pre {
		if !same(a.Pre[e], b.Pre[e]) || len(a.Post[e]) != len(b.Post[e]) {
			return false
		}
		for i, assign := range a.Post[e] {
			if assign.Fact != b.Post[e][i].Fact || !same(assign.To, b.Post[e][i].To) {
				return false
			}
		}
	}
	for agent := range a.Rel {
		if !slices.Equal(a.Rel[agent], b.Rel[agent]) {
			return false
		}
	}
	return true
}

// always reports whether all events of a relation have a property.
func always(row []uint64, property func(e int) bool) bool {
	for e := range row {
		if !property(e) {
			return false
		}
	}
	return true
}

// triples reports whether all triples of events of a relation have a property.
func triples(row []uint64, property func(d, e, f int) bool) bool {
	return always(row, func(d int) bool {
		return always(row, func(e int) bool {
			return always(row, func(f int) bool { return property(d, e, f) })
		})
	})
}

// inLogic is the chapter's definition for one agent.
func inLogic(row []uint64, logic int) bool {
	leads := func(d, e int) bool { return has(row[d], e) }
	serial := always(row, func(e int) bool { return row[e] != 0 })
	reflexive := always(row, func(e int) bool { return leads(e, e) })
	transitive := triples(row, func(d, e, f int) bool { return !leads(d, e) || !leads(e, f) || leads(d, f) })
	euclidean := triples(row, func(d, e, f int) bool { return !leads(d, e) || !leads(d, f) || leads(e, f) })
	switch logic {
	case api.LogicK:
		return true
	case api.LogicKD:
		return serial
	case api.LogicT:
		return reflexive
	case api.LogicK4:
		return transitive
	case api.LogicS4:
		return reflexive && transitive
	case api.LogicKD45:
		return serial && transitive && euclidean
	case api.LogicS5:
		return reflexive && transitive && euclidean
	}
	return false
}

// groupOf returns for each event the events that some, or all, agents of a group consider possible.
func groupOf(a api.Action, group int, all bool) []uint64 {
	l := []uint64{}
	for e := range a.Pre {
		set := uint64(0)
		for d := range a.Pre {
			some, every := false, true
			for agent, row := range a.Rel {
				if group>>agent&1 == 1 {
					some, every = some || has(row[e], d), every && has(row[e], d)
				}
			}
			if all && every || !all && some {
				set |= 1 << d
			}
		}
		l = append(l, set)
	}
	return l
}

// visit adds an event and those that can be reached from it.
func visit(a api.Action, e int, seen []bool) {
	if seen[e] {
		return
	}
	seen[e] = true
	for _, row := range a.Rel {
		for d := range a.Pre {
			if has(row[e], d) {
				visit(a, d, seen)
			}
		}
	}
}

// generatedOf is the chapter's definition of Generated, with canonical lists.
func generatedOf(a api.Action, event int) (api.Action, []int) {
	seen := make([]bool, len(a.Pre))
	visit(a, event, seen)
	part, events := api.Action{}, []int{}
	for e, reached := range seen {
		if !reached {
			continue
		}
		events = append(events, e)
		part.Pre = append(part.Pre, formula.Compact(a.Pre[e]))
		post := []api.Assign{}
		for _, assign := range a.Post[e] {
			post = append(post, api.Assign{Fact: assign.Fact, To: formula.Compact(assign.To)})
		}
		part.Post = append(part.Post, post)
	}
	for _, row := range a.Rel {
		l := []uint64{}
		for _, e := range events {
			set := uint64(0)
			for number, d := range events {
				if has(row[e], d) {
					set |= 1 << number
				}
			}
			l = append(l, set)
		}
		part.Rel = append(part.Rel, l)
	}
	return part, events
}
