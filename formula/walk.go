package formula

import "witting/api"

// walk collects the canonical list of a list of nodes.
type walk struct {
	from   []api.Node
	place  []int // for each node its number in the canonical list plus 1, or 0 until it is finished
	list   []api.Node
	number map[api.Node]int
}

// canonical returns the canonical list of well-formed nodes, however many there are.
func canonical(f []api.Node) []api.Node {
	w := &walk{from: f, place: make([]int, len(f)), number: map[api.Node]int{}}
	w.finish(len(f) - 1)
	return w.list
}

// finish walks from a node unless that is finished, and returns its number in the canonical list.
func (w *walk) finish(node int) int {
	if w.place[node] == 0 {
		w.place[node] = w.add(renumber(w.from[node], w.finish)) + 1
	}
	return w.place[node] - 1
}

// add returns the number of a renumbered node, which is appended unless an equal one is there.
func (w *walk) add(n api.Node) int {
	i, found := w.number[n]
	if !found {
		i = len(w.list)
		w.number[n] = i
		w.list = append(w.list, n)
	}
	return i
}
