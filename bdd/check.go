package bdd

import "witting/api"

// The numbers of the constants, and that of the node 0.
const (
	falseNumber = 0
	trueNumber  = 1
	firstNode   = 2
)

// Check returns the first error of a diagram.
func Check(d api.Diagram) int {
	if !isVars(d.Vars) {
		return api.ErrRange
	}
	if len(d.Nodes) > api.MaxDiagram {
		return api.ErrLimit
	}
	for i := range d.Nodes {
		if e := checkNode(d, i); e != api.OK {
			return e
		}
	}
	if hasRepeats(d.Nodes) {
		return api.ErrExist
	}
	if d.Root < 0 || d.Root >= len(d.Nodes)+firstNode {
		return api.ErrForm
	}
	if !isFinishedInOrder(d) {
		return api.ErrState
	}
	return api.OK
}

// isVars reports whether there are diagrams of so many variables.
func isVars(vars int) bool {
	return vars >= 0 && vars <= api.MaxVars
}

// isVariable reports whether a number is one of so many variables.
func isVariable(vars, i int) bool {
	return i >= 0 && i < vars
}

// checkAll returns the first error of diagrams that a function gets together.
func checkAll(l ...api.Diagram) int {
	for _, d := range l {
		if e := Check(d); e != api.OK {
			return e
		}
	}
	for _, d := range l {
		if d.Vars != l[0].Vars {
			return api.ErrForm
		}
	}
	return api.OK
}

// checkNode returns the first error of a node, if the nodes before it have none.
func checkNode(d api.Diagram, i int) int {
	node, number := d.Nodes[i], i+firstNode
	if !isVariable(d.Vars, node.Var) {
		return api.ErrRange
	}
	if min(node.Low, node.High) < 0 || max(node.Low, node.High) >= number || node.Low == node.High {
		return api.ErrForm
	}
	for _, next := range []int{node.Low, node.High} {
		if next >= firstNode && d.Nodes[next-firstNode].Var <= node.Var {
			return api.ErrOrder
		}
	}
	return api.OK
}

// hasRepeats reports whether two nodes are equal.
func hasRepeats(nodes []api.DiagramNode) bool {
	seen := make(map[api.DiagramNode]bool, len(nodes))
	for _, node := range nodes {
		if seen[node] {
			return true
		}
		seen[node] = true
	}
	return false
}

// isFinishedInOrder reports whether a walk from the root finishes all nodes in the order in which they stand.
func isFinishedInOrder(d api.Diagram) bool {
	order := finished(d.Nodes, d.Root)
	for i, number := range order {
		if number != i+firstNode {
			return false
		}
	}
	return len(order) == len(d.Nodes)
}

// finished returns the numbers of the nodes that a walk from a root visits, in the order in which it finishes them.
// The walk is as deep as there are variables, since each node tests a lower one than those to which it goes on.
func finished(nodes []api.DiagramNode, root int) []int {
	var order []int
	visited := make([]bool, len(nodes)+firstNode)
	var visit func(number int)
	visit = func(number int) {
		if number < firstNode || visited[number] {
			return
		}
		visited[number] = true
		visit(nodes[number-firstNode].Low)
		visit(nodes[number-firstNode].High)
		order = append(order, number)
	}
	visit(root)
	return order
}
