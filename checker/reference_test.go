package checker_test

import (
	"witting/api"
)

// leadsAny reports whether v is a successor of w for some agent of a group.
func leadsAny(m api.Model, group, w, v int) bool {
	for a, successors := range m.Rel {
		if group>>a&1 == 1 && has(successors[w], v) {
			return true
		}
	}
	return false
}

// leadsAll reports whether v is a successor of w for all agents of a group.
func leadsAll(m api.Model, group, w, v int) bool {
	for a, successors := range m.Rel {
		if group>>a&1 == 1 && !has(successors[w], v) {
			return false
		}
	}
	return true
}

// truth is the chapter's definition: whether the formula of a node holds at a world, where the sets of the earlier nodes are known.
func truth(m api.Model, n api.Node, sets []uint64, w int) bool {
	x := func(v int) bool { return has(sets[n.X], v) }
	y := func(v int) bool { return has(sets[n.Y], v) }
	switch n.Op {
	case api.OpTrue:
		return true
	case api.OpFact:
		return has(m.Val[n.I], w)
	case api.OpNot:
		return !x(w)
	case api.OpAnd:
		return x(w) && y(w)
	case api.OpOr:
		return x(w) || y(w)
	case api.OpImp:
		return !(x(w) && !y(w))
	case api.OpIff:
		return x(w) == y(w)
	case api.OpPoss:
		for v := range m.Worlds {
			if has(m.Rel[n.I][w], v) && x(v) {
				return true
			}
		}
		return false
	case api.OpCommon:
		return !pathTo(m, n.G, w, x, func(v int) bool { return !y(v) }, map[int]bool{})
	}
	return n.Op != api.OpFalse && knows(m, n, w, x)
}

// knows is truth for Know, Every and Dist: whether x holds at all worlds that count.
func knows(m api.Model, n api.Node, w int, x func(v int) bool) bool {
	for v := range m.Worlds {
		leads := false
		switch n.Op {
		case api.OpKnow:
			leads = has(m.Rel[n.I][w], v)
		case api.OpEvery:
			leads = leadsAny(m, n.G, w, v)
		case api.OpDist:
			leads = leadsAll(m, n.G, w, v)
		}
		if leads && !x(v) {
			return false
		}
	}
	return true
}

// pathTo reports whether a path of one or more steps to worlds of x ends at a world of end. It goes on from no world twice.
func pathTo(m api.Model, group, w int, x, end func(v int) bool, seen map[int]bool) bool {
	for v := range m.Worlds {
		if !leadsAny(m, group, w, v) || !x(v) || seen[v] {
			continue
		}
		seen[v] = true
		if end(v) || pathTo(m, group, v, x, end, seen) {
			return true
		}
	}
	return false
}

// setsOf returns, for each node of a static formula that fits a model, where it holds.
func setsOf(m api.Model, f []api.Node) []uint64 {
	sets := []uint64{}
	for _, n := range f {
		set := uint64(0)
		for w := range m.Worlds {
			if truth(m, n, sets, w) {
				set |= 1 << w
			}
		}
		sets = append(sets, set)
	}
	return sets
}
