package checker

import (
	"witting/api"
	"witting/model"
	"witting/relation"
)

// truths holds, for each node so far, the worlds at which its formula holds.
type truths struct {
	model api.Model
	all   uint64 // the worlds of the model
	sets  []uint64
	has   []bool // for each node so far: whether its formula has a meaning in the model
}

// add finds the worlds of the next node. A formula without a meaning has none: only nodes that the whole formula does not use are such.
func (t *truths) add(n api.Node) {
	meaning := t.hasMeaning(n)
	var set uint64
	if meaning {
		set = t.set(n)
	}
	t.has = append(t.has, meaning)
	t.sets = append(t.sets, set)
}

// hasMeaning reports whether the formula of a node is in the static language and fits the model.
func (t *truths) hasMeaning(n api.Node) bool {
	agents := len(t.model.Rel)
	switch n.Op {
	case api.OpTrue, api.OpFalse:
		return true
	case api.OpFact:
		return n.I < len(t.model.Val)
	case api.OpNot:
		return t.has[n.X]
	case api.OpAnd, api.OpOr, api.OpImp, api.OpIff:
		return t.has[n.X] && t.has[n.Y]
	case api.OpKnow, api.OpPoss:
		return n.I < agents && t.has[n.X]
	case api.OpEvery, api.OpDist:
		return n.G>>agents == 0 && t.has[n.X]
	case api.OpCommon:
		return n.G>>agents == 0 && t.has[n.X] && t.has[n.Y]
	}
	return false
}

// set returns the worlds of a node with a meaning.
func (t *truths) set(n api.Node) uint64 {
	switch n.Op {
	case api.OpTrue:
		return t.all
	case api.OpFact:
		return t.model.Val[n.I]
	case api.OpNot:
		return t.not(t.sets[n.X])
	case api.OpAnd:
		return t.sets[n.X] & t.sets[n.Y]
	case api.OpOr:
		return t.sets[n.X] | t.sets[n.Y]
	case api.OpImp:
		return t.not(t.sets[n.X]) | t.sets[n.Y]
	case api.OpIff:
		return t.not(t.sets[n.X] ^ t.sets[n.Y])
	case api.OpKnow:
		return relation.Box(t.model.Rel[n.I], t.sets[n.X])
	case api.OpPoss:
		return relation.Diamond(t.model.Rel[n.I], t.sets[n.X])
	case api.OpEvery:
		return relation.Box(model.Group(t.model, n.G), t.sets[n.X])
	case api.OpDist:
		return relation.Box(model.Meet(t.model, n.G), t.sets[n.X])
	case api.OpCommon:
		return t.common(n.G, t.sets[n.X], t.sets[n.Y])
	}
	return 0
}

// not returns the other worlds.
func (t *truths) not(set uint64) uint64 {
	return t.all &^ set
}

// common returns the worlds from which no path along worlds of x ends where y does not hold.
func (t *truths) common(group int, x, y uint64) uint64 {
	steps := model.Group(t.model, group)
	for w := range steps {
		steps[w] &= x
	}
	back, _ := relation.Converse(steps)
	return t.not(relation.Reach(back, t.not(y)))
}
