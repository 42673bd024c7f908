package boolean

import "witting/api"

// walk collects the atoms of a canonical list.
type walk struct {
	list  []api.Node
	met   []bool
	atoms []int
}

// atomsOf returns the nodes of a canonical list that are its atoms, in the order in which a walk meets them.
func atomsOf(list []api.Node) []int {
	w := &walk{list: list, met: make([]bool, len(list))}
	w.meet(len(list) - 1)
	return w.atoms
}

// meet walks from a node through propositional operators. Equal nodes have one place in the list, so that each atom is met once.
func (w *walk) meet(node int) {
	if w.met[node] {
		return
	}
	w.met[node] = true
	switch n := w.list[node]; n.Op {
	case api.OpTrue, api.OpFalse:
	case api.OpNot:
		w.meet(n.X)
	case api.OpAnd, api.OpOr, api.OpImp, api.OpIff:
		w.meet(n.X)
		w.meet(n.Y)
	default:
		w.atoms = append(w.atoms, node)
	}
}
