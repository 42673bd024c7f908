package bdd

import "witting/api"

// table contains nodes of functions, each once: equal functions have the same number. There may be more of them than in a diagram.
type table struct {
	vars    int
	nodes   []api.DiagramNode
	numbers map[api.DiagramNode]int
}

func newTable(vars int) *table {
	return &table{vars: vars, numbers: map[api.DiagramNode]int{}}
}

// number returns the number of the function that is low where a variable is false, and high where it is true; both depend on greater variables only.
func (t *table) number(variable, low, high int) int {
	if low == high {
		return low
	}
	node := api.DiagramNode{Var: variable, Low: low, High: high}
	number, found := t.numbers[node]
	if !found {
		number = len(t.nodes) + firstNode
		t.nodes = append(t.nodes, node)
		t.numbers[node] = number
	}
	return number
}

// load returns the number of the function of a valid diagram.
func (t *table) load(d api.Diagram) int {
	return fold(d, falseNumber, trueNumber, t.number)
}

// restrict returns the number of the function of a valid diagram with a variable set to a value.
func (t *table) restrict(d api.Diagram, i int, value bool) int {
	return fold(d, falseNumber, trueNumber, func(v, low, high int) int {
		switch {
		case v != i:
			return t.number(v, low, high)
		case value:
			return high
		}
		return low
	})
}

// diagram returns the canonical diagram of a number, or ErrLimit.
func (t *table) diagram(root int) (api.Diagram, int) {
	order := finished(t.nodes, root)
	if len(order) > api.MaxDiagram {
		return api.Diagram{}, api.ErrLimit
	}
	numbers := make([]int, len(t.nodes)+firstNode)
	numbers[trueNumber] = trueNumber
	nodes := make([]api.DiagramNode, len(order))
	for i, number := range order {
		node := t.nodes[number-firstNode]
		nodes[i] = api.DiagramNode{Var: node.Var, Low: numbers[node.Low], High: numbers[node.High]}
		numbers[number] = i + firstNode
	}
	return api.Diagram{Vars: t.vars, Nodes: nodes, Root: numbers[root]}, api.OK
}

// fold returns the value of the root of a valid diagram. It is given the values of the constants; join returns that of a node, from those to which the node goes on.
func fold[T any](d api.Diagram, no, yes T, join func(variable int, low, high T) T) T {
	values := append(make([]T, 0, len(d.Nodes)+firstNode), no, yes)
	for _, node := range d.Nodes {
		values = append(values, join(node.Var, values[node.Low], values[node.High]))
	}
	return values[d.Root]
}
