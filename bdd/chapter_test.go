package bdd_test

import (
	"math"
	"math/rand/v2"
	"slices"
	"testing"

	"witting/api"
	"witting/bdd"
)

// truth is a function of variables: it has a byte, '0' or '1', for each assignment, in the order in which the variable 0 counts most and false stands before true.
type truth struct {
	vars   int
	values string
}

// place returns the place of an assignment in the order of the values.
func place(vars int, assignment uint64) int {
	p := 0
	for i := range vars {
		p = 2*p + int(assignment>>i&1)
	}
	return p
}

// at is the value at an assignment.
func (f truth) at(assignment uint64) bool {
	return f.values[place(f.vars, assignment)] == '1'
}

// functionOf returns the function with a value for each assignment.
func functionOf(vars int, value func(assignment uint64) bool) truth {
	values := make([]byte, 1<<vars)
	for assignment := range uint64(1) << vars {
		values[place(vars, assignment)] = '0'
		if value(assignment) {
			values[place(vars, assignment)] = '1'
		}
	}
	return truth{vars, string(values)}
}

// all returns all functions of so many variables.
func all(vars int) []truth {
	var l []truth
	for table := range uint64(1) << (1 << vars) {
		l = append(l, functionOf(vars, func(assignment uint64) bool { return table>>assignment&1 == 1 }))
	}
	return l
}

// random returns a function that is true at about one of so many assignments, or false at them.
func random(r *rand.Rand, vars int) truth {
	rare, few := 2+r.IntN(4), r.IntN(2) == 0
	// Some functions depend on some of the variables only.
	mask := r.Uint64() | r.Uint64() | r.Uint64()
	if r.IntN(3) == 0 {
		mask = math.MaxUint64
	}
	values := make([]bool, 1<<vars)
	for i := range values {
		values[i] = r.IntN(rare) == 0 == few
	}
	return functionOf(vars, func(assignment uint64) bool { return values[assignment&mask] })
}

// canonical is the chapter's canonical diagram of a function: a walk that visits Low, then High, and then finishes the node.
func canonical(f truth) api.Diagram {
	d := api.Diagram{Vars: f.vars}
	numbers := map[string]int{"0": 0, "1": 1}
	var walk func(v int, values string) int
	walk = func(v int, values string) int {
		if number, finished := numbers[values]; finished {
			return number
		}
		low, high := values[:len(values)/2], values[len(values)/2:]
		if low == high {
			return walk(v+1, low)
		}
		node := api.DiagramNode{Var: v, Low: walk(v+1, low), High: walk(v+1, high)}
		d.Nodes = append(d.Nodes, node)
		numbers[values] = len(d.Nodes) + 1
		return numbers[values]
	}
	d.Root = walk(0, f.values)
	return d
}

// truthOf returns the function of a diagram whose nodes lead to constants.
func truthOf(d api.Diagram) truth {
	return functionOf(d.Vars, func(assignment uint64) bool {
		number := d.Root
		for number > 1 {
			node := d.Nodes[number-2]
			number = node.Low
			if assignment>>node.Var&1 == 1 {
				number = node.High
			}
		}
		return number == 1
	})
}

// errorOf is the chapter's Check, for diagrams of few variables.
func errorOf(d api.Diagram) int {
	if d.Vars < 0 || d.Vars > 24 {
		return api.ErrRange
	}
	if len(d.Nodes) > 4096 {
		return api.ErrLimit
	}
	for i, node := range d.Nodes {
		isNumber := func(number int) bool { return 0 <= number && number <= i+1 }
		isOrdered := func(number int) bool { return number < 2 || d.Nodes[number-2].Var > node.Var }
		switch {
		case node.Var < 0 || node.Var > d.Vars-1:
			return api.ErrRange
		case !isNumber(node.Low) || !isNumber(node.High) || node.Low == node.High:
			return api.ErrForm
		case !isOrdered(node.Low) || !isOrdered(node.High):
			return api.ErrOrder
		}
	}
	for i, node := range d.Nodes {
		if slices.Contains(d.Nodes[:i], node) {
			return api.ErrExist
		}
	}
	if d.Root < 0 || d.Root > len(d.Nodes)+1 {
		return api.ErrForm
	}
	if !same(d, canonical(truthOf(d))) {
		return api.ErrState
	}
	return api.OK
}

// same reports whether two diagrams are equal.
func same(a, b api.Diagram) bool {
	return a.Vars == b.Vars && a.Root == b.Root && slices.Equal(a.Nodes, b.Nodes)
}

// result is what a function returns.
type result struct {
	d api.Diagram
	e int
}

// of joins what a function returns.
func of(d api.Diagram, e int) result {
	return result{d, e}
}

// is reports an error unless a result is the canonical diagram of a function.
func (r result) is(t *testing.T, f truth, what ...any) {
	t.Helper()
	if r.e != api.OK || !same(r.d, canonical(f)) {
		t.Fatalf("%v: %v, %d, not %v", what, r.d, r.e, canonical(f))
	}
}

// fails reports an error unless a result is an error.
func (r result) fails(t *testing.T, e int, what ...any) {
	t.Helper()
	if r.e != e || !same(r.d, api.Diagram{}) {
		t.Fatalf("%.200v: %d nodes, root %d, %d, not the error %d", what, len(r.d.Nodes), r.d.Root, r.e, e)
	}
}

// must returns a diagram that has no error.
func must(d api.Diagram, e int) api.Diagram {
	if e != api.OK {
		panic(e)
	}
	return d
}

// operations returns what the functions of two diagrams do with values.
func operations() []struct {
	name string
	make func(a, b api.Diagram) (api.Diagram, int)
	do   func(x, y bool) bool
} {
	return []struct {
		name string
		make func(a, b api.Diagram) (api.Diagram, int)
		do   func(x, y bool) bool
	}{
		{"And", bdd.And, func(x, y bool) bool { return x && y }},
		{"Or", bdd.Or, func(x, y bool) bool { return x || y }},
		{"Xor", bdd.Xor, func(x, y bool) bool { return x != y }},
	}
}

// badDiagrams returns diagrams that are not valid, by their errors.
func badDiagrams() map[int][]api.Diagram {
	node := func(v, low, high int) api.DiagramNode { return api.DiagramNode{Var: v, Low: low, High: high} }
	nodes := func(root int, l ...api.DiagramNode) api.Diagram { return api.Diagram{Vars: 3, Nodes: l, Root: root} }
	good := node(2, 0, 1)
	bad := map[int][]api.Diagram{
		api.ErrRange: {
			{Vars: -1}, {Vars: 25}, {Vars: math.MinInt}, {Vars: math.MaxInt}, {Vars: -1, Nodes: make([]api.DiagramNode, 4097)}, {Vars: 64, Root: 9},
			nodes(2, node(-1, 0, 1)), nodes(2, node(3, 0, 1)), nodes(2, node(math.MaxInt, 0, 1)), nodes(2, node(math.MinInt, 5, 5)),
			nodes(9, good, node(3, 2, 2)), nodes(2, good, good, node(64, 0, 1)), {Vars: 0, Nodes: []api.DiagramNode{{Var: 0, Low: 0, High: 1}}, Root: 2},
		},
		api.ErrLimit: {
			{Vars: 3, Nodes: make([]api.DiagramNode, 4097)}, {Vars: 24, Nodes: slices.Repeat([]api.DiagramNode{good}, 4097), Root: 2}, {Vars: 0, Nodes: make([]api.DiagramNode, 100000), Root: -1},
		},
		api.ErrForm: {
			nodes(2, node(2, 0, 0)), nodes(2, node(2, 1, 1)), nodes(2, node(2, -1, 1)), nodes(2, node(2, 0, -1)), nodes(2, node(2, 2, 1)), nodes(2, node(2, 0, 2)),
			nodes(2, node(2, math.MaxInt, 1)), nodes(2, node(2, 0, math.MinInt)), nodes(3, good, node(1, 3, 0)), nodes(3, good, node(1, 2, 2)), nodes(3, good, node(2, 2, 2)),
			nodes(-1), nodes(2), nodes(3, good), nodes(-1, good), nodes(math.MaxInt, good), nodes(math.MinInt, good), nodes(9, good, node(0, 0, 1)),
			{Vars: 3, Nodes: make([]api.DiagramNode, 4096), Root: 2},
		},
		api.ErrOrder: {
			nodes(3, good, node(2, 0, 2)), nodes(3, good, node(2, 2, 1)), nodes(3, node(0, 0, 1), node(1, 2, 0)), nodes(9, node(0, 0, 1), node(0, 1, 2), node(3, 0, 1)),
		},
		api.ErrExist: {
			nodes(2, good, good), nodes(3, good, good), nodes(9, good, good), nodes(4, good, node(1, 2, 0), good), nodes(4, good, node(1, 0, 2), node(1, 0, 2)),
			{Vars: 3, Nodes: slices.Repeat([]api.DiagramNode{good}, 4096), Root: 2},
		},
		api.ErrState: {
			nodes(0, good), nodes(1, good), nodes(2, good, node(1, 2, 0)), nodes(3, good, node(1, 0, 1)), nodes(2, good, node(2, 1, 0)),
			nodes(4, node(2, 1, 0), good, node(1, 3, 2)), nodes(4, good, node(1, 0, 1), node(0, 3, 2)), nodes(4, node(1, 0, 1), node(2, 0, 1), node(0, 3, 2)),
		},
	}
	return bad
}

// noVariables returns numbers that are no variables of so many.
func noVariables(vars int) []int {
	return []int{-1, vars, vars + 1, 24, 64, math.MaxInt, math.MinInt}
}

// noSets returns sets with variables that do not exist.
func noSets(vars int) []uint64 {
	return []uint64{1 << vars, 3 << vars, 1 << 24, 1 << 63, math.MaxUint64, math.MaxUint64 << vars}
}

// pairsOf returns the function of 24 variables that is true where both variables of some pair are: those of a list, and the ones 11 places after them.
// A diagram has to remember which first ones are true: n pairs have 2^(n+1) - 2 nodes.
func pairsOf(firsts ...int) api.Diagram {
	d := must(bdd.Const(24, false))
	for _, i := range firsts {
		both := must(bdd.And(variable(i), variable(i+11)))
		d = must(bdd.Or(d, both))
	}
	return d
}

// variable returns the function of 24 variables that is one of them.
func variable(i int) api.Diagram {
	return must(bdd.Var(24, i))
}

// large returns a diagram of the variables 2 to 23 with 4094 nodes.
func large() api.Diagram {
	return pairsOf(2, 3, 4, 5, 6, 7, 8, 9, 10, 11, 12)
}
