package announce_test

import "witting/api"

// The definitions here leave the model and its numbers as they are: only some of the worlds are alive, and formulas are evaluated there.

// leads reports whether an alive world v is a successor of w, for some or for all agents of a group.
func leads(m api.Model, alive uint64, group, w, v int, all bool) bool {
	for a, successors := range m.Rel {
		if group>>a&1 == 1 && has(successors[w], v) != all {
			return has(alive, v) && !all
		}
	}
	return has(alive, v) && all
}

// everywhere reports whether x holds at all alive successors of w, for some or for all agents of a group.
func everywhere(m api.Model, alive uint64, group, w int, all bool, x func(v int) bool) bool {
	for v := range m.Worlds {
		if leads(m, alive, group, w, v, all) && !x(v) {
			return false
		}
	}
	return true
}

// truth is the definition of layer 17 among alive worlds, where the sets of the earlier nodes are known.
func truth(m api.Model, alive uint64, n api.Node, sets []uint64, w int) bool {
	x := func(v int) bool { return has(sets[n.X], v) }
	y := func(v int) bool { return has(sets[n.Y], v) }
	switch n.Op {
	case api.OpTrue:
		return true
	case api.OpFact:
		return has(m.Val[n.I], w)
	case api.OpNot:
		return !x(w)
	case api.OpAnd:
		return x(w) && y(w)
	case api.OpOr:
		return x(w) || y(w)
	case api.OpImp:
		return !x(w) || y(w)
	case api.OpIff:
		return x(w) == y(w)
	case api.OpKnow:
		return everywhere(m, alive, 1<<n.I, w, false, x)
	case api.OpPoss:
		return !everywhere(m, alive, 1<<n.I, w, false, func(v int) bool { return !x(v) })
	case api.OpEvery:
		return everywhere(m, alive, n.G, w, false, x)
	case api.OpDist:
		return everywhere(m, alive, n.G, w, true, x)
	case api.OpCommon:
		return !pathTo(m, alive, n.G, w, x, func(v int) bool { return !y(v) }, new([64]bool))
	}
	return false
}

// pathTo reports whether a path of one or more steps to alive worlds of x ends at a world of end. It goes on from no world twice.
func pathTo(m api.Model, alive uint64, group, w int, x, end func(v int) bool, seen *[64]bool) bool {
	for v := range m.Worlds {
		if !leads(m, alive, group, w, v, false) || !x(v) || seen[v] {
			continue
		}
		seen[v] = true
		if end(v) || pathTo(m, alive, group, v, x, end, seen) {
			return true
		}
	}
	return false
}

// holdsIn returns the alive worlds at which a formula holds if there are no other worlds.
func holdsIn(m api.Model, alive uint64, f []api.Node) uint64 {
	sets := []uint64{}
	for _, n := range f {
		set := uint64(0)
		for w := range m.Worlds {
			if has(alive, w) && truth(m, alive, n, sets, w) {
				set |= 1 << w
			}
		}
		sets = append(sets, set)
	}
	return sets[len(f)-1]
}

// knowledge returns for each agent and each world whether a formula holds at all alive successors.
func knowledge(m api.Model, alive uint64, f []api.Node) [][]bool {
	set := holdsIn(m, alive, f)
	rows := [][]bool{}
	for agent := range m.Rel {
		row := make([]bool, m.Worlds)
		for w := range row {
			row[w] = everywhere(m, alive, 1<<agent, w, false, func(v int) bool { return has(set, v) })
		}
		rows = append(rows, row)
	}
	return rows
}

// listOf returns the elements of a set.
func listOf(set uint64) []int {
	l := []int{}
	for w := range 64 {
		if has(set, w) {
			l = append(l, w)
		}
	}
	return l
}

// partOf returns a set of worlds as seen from the worlds of a list.
func partOf(set uint64, worlds []int) uint64 {
	part := uint64(0)
	for i, w := range worlds {
		if has(set, w) {
			part |= 1 << i
		}
	}
	return part
}

// modelOf returns the model of the alive worlds, in their order.
func modelOf(m api.Model, alive uint64) api.Model {
	worlds := listOf(alive)
	part := api.Model{Worlds: len(worlds)}
	for _, set := range m.Val {
		part.Val = append(part.Val, partOf(set, worlds))
	}
	for _, r := range m.Rel {
		row := []uint64{}
		for _, w := range worlds {
			row = append(row, partOf(r[w], worlds))
		}
		part.Rel = append(part.Rel, row)
	}
	return part
}

// askedOf returns the model in which successors have the same truth of a formula, pair by pair.
func askedOf(m api.Model, f []api.Node) api.Model {
	set := holdsIn(m, worldsBelow(m.Worlds), f)
	asked := api.Model{Worlds: m.Worlds, Val: m.Val}
	for _, r := range m.Rel {
		row := make([]uint64, m.Worlds)
		for w := range row {
			for v := range row {
				if has(r[w], v) && has(set, v) == has(set, w) {
					row[w] |= 1 << v
				}
			}
		}
		asked.Rel = append(asked.Rel, row)
	}
	return asked
}
