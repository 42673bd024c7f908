package filter

import (
	"witting/api"
	"witting/checker"
	"witting/formula"
	"witting/model"
	"witting/relation"
	"witting/worldset"
)

// division is a model whose worlds are divided into classes by the subformulas of a formula.
type division struct {
	model   api.Model
	facts   int           // the mask of the facts that occur in the formula
	known   [][]knowledge // for each agent
	numbers []int         // for each world the number of its class
	classes []uint64      // for each class its worlds
}

// knowledge is a subformula about what an agent knows: the worlds where it knows something, and those where this is so.
type knowledge struct{ at, of uint64 }

// key says which subformulas hold at a world: a bit for each node.
type key [(api.MaxNodes + 63) / 64]uint64

// divide returns the division of a model by a formula, or the error of the model, of the formula, ErrOp, or ErrRange.
func divide(m api.Model, f []api.Node) (*division, int) {
	if e := model.Check(m); e != api.OK {
		return nil, e
	}
	if e := formula.Check(f); e != api.OK {
		return nil, e
	}
	if formula.Frags(f)&^api.FragKnow != 0 {
		return nil, api.ErrOp
	}
	// Nodes that the whole formula does not use are no subformulas.
	nodes := formula.Compact(f)
	sets, e := checker.Sets(m, nodes)
	if e != api.OK {
		return nil, e
	}
	t := &division{model: m, facts: formula.Facts(f), known: knowledgeOf(len(m.Rel), nodes, sets)}
	t.findClasses(sets)
	return t, api.OK
}

// knowledgeOf returns for each agent the subformulas about what it knows, from the nodes of a formula and the worlds where these hold.
func knowledgeOf(agents int, nodes []api.Node, sets []uint64) [][]knowledge {
	known := make([][]knowledge, agents)
	for i, n := range nodes {
		switch n.Op {
		case api.OpKnow:
			known[n.I] = append(known[n.I], knowledge{at: sets[i], of: sets[n.X]})
		case api.OpPoss:
			// Where X is not considered possible, it is known that X does not hold.
			known[n.I] = append(known[n.I], knowledge{at: ^sets[i], of: ^sets[n.X]})
		}
	}
	return known
}

// findClasses puts worlds at which the same nodes hold into a class, and numbers the classes by their lowest worlds.
func (t *division) findClasses(sets []uint64) {
	numbers := map[key]int{}
	for w := range t.model.Worlds {
		k := keyOf(sets, w)
		number, found := numbers[k]
		if !found {
			number = len(t.classes)
			numbers[k] = number
			t.classes = append(t.classes, 0)
		}
		t.classes[number] |= 1 << w
		t.numbers = append(t.numbers, number)
	}
}

// keyOf returns the key of a world, from the worlds where each node holds.
func keyOf(sets []uint64, world int) key {
	var k key
	for i, s := range sets {
		k[i/64] |= s >> world & 1 << (i % 64)
	}
	return k
}

// filtration returns the model of the classes, in which a class leads to another one for an agent if a condition says so.
func (t *division) filtration(leads func(agent int, c, d uint64) bool) api.Model {
	q := api.Model{Worlds: len(t.classes), Val: make([]uint64, len(t.model.Val)), Rel: make([][]uint64, len(t.model.Rel))}
	for fact, s := range t.model.Val {
		if t.facts>>fact&1 == 1 {
			q.Val[fact], _ = worldset.Rename(s, t.numbers)
		}
	}
	for agent := range q.Rel {
		q.Rel[agent] = make([]uint64, q.Worlds)
		for i, c := range t.classes {
			for k, d := range t.classes {
				if leads(agent, c, d) {
					q.Rel[agent][i] |= 1 << k
				}
			}
		}
	}
	return q
}

// linked reports whether a world of c has a successor in d.
func (t *division) linked(agent int, c, d uint64) bool {
	return c&relation.Diamond(t.model.Rel[agent], d) != 0
}

// permitted reports whether all that the agent knows in c is so in d: the worlds of a class agree, so each one speaks for all.
func (t *division) permitted(agent int, c, d uint64) bool {
	for _, k := range t.known[agent] {
		if c&k.at != 0 && d&k.of == 0 {
			return false
		}
	}
	return true
}

// remembered reports whether the agent knows in d all that it knows in c.
func (t *division) remembered(agent int, c, d uint64) bool {
	for _, k := range t.known[agent] {
		if c&k.at != 0 && d&k.at == 0 {
			return false
		}
	}
	return true
}
