package rewrite

import (
	"witting/api"
	"witting/formula"
)

// operands contains the number of operands of each operator.
var operands = [...]int{
	api.OpTrue: 0, api.OpFalse: 0, api.OpFact: 0,
	api.OpNot: 1, api.OpAnd: 2, api.OpOr: 2, api.OpImp: 2, api.OpIff: 2,
	api.OpKnow: 1, api.OpPoss: 1, api.OpEvery: 1, api.OpDist: 1, api.OpCommon: 2,
	api.OpBelief: 2, api.OpSafe: 1, api.OpAnnounce: 2, api.OpAct: 1,
	api.OpNext: 1, api.OpUntil: 2, api.OpPrev: 1, api.OpSince: 2,
}

// builder collects nodes of which no two are equal: formulas are equal if they have the same place.
// There is no limit: what is too large may be left out of the result.
type builder struct {
	list   []api.Node
	places map[api.Node]int
}

func newBuilder() *builder {
	return &builder{places: map[api.Node]int{}}
}

// add returns the place of a node, which is appended unless an equal one is there.
func (b *builder) add(n api.Node) int {
	place, found := b.places[n]
	if !found {
		place = len(b.list)
		b.places[n] = place
		b.list = append(b.list, n)
	}
	return place
}

// join returns the place of a formula without numbers: y is 0 for an operator with one operand.
func (b *builder) join(op, x, y int) int {
	return b.add(api.Node{Op: op, X: x, Y: y})
}

// not returns the place of Not x.
func (b *builder) not(x int) int {
	return b.join(api.OpNot, x, 0)
}

// isNot reports whether x is Not y.
func (b *builder) isNot(x, y int) bool {
	return b.list[x] == api.Node{Op: api.OpNot, X: y}
}

// negation returns the place of the Negate of x.
func (b *builder) negation(x int) int {
	if n := b.list[x]; n.Op == api.OpNot {
		return n.X
	}
	return b.not(x)
}

// rewrite applies a rule to the nodes of a formula, operands first, and returns the place of the last result. A rule gets each node with the results of its operands.
func (b *builder) rewrite(f []api.Node, rule func(n api.Node) int) int {
	results := make([]int, len(f))
	for i, n := range f {
		results[i] = rule(withOperands(n, results))
	}
	return results[len(f)-1]
}

// take returns the formula at a place, or ErrLimit.
func (b *builder) take(last int) ([]api.Node, int) {
	used := make([]bool, last+1)
	used[last] = true
	for i := last; i >= 0; i-- {
		n := b.list[i]
		if used[i] && operands[n.Op] > 0 {
			used[n.X] = true
		}
		if used[i] && operands[n.Op] > 1 {
			used[n.Y] = true
		}
	}
	var f []api.Node
	numbers := make([]int, last+1)
	for i, n := range b.list[:last+1] {
		if used[i] {
			numbers[i] = len(f)
			f = append(f, withOperands(n, numbers))
		}
	}
	return formula.Compact(f), formula.Check(f)
}

// withOperands returns a node with the numbers that its operands have in a list.
func withOperands(n api.Node, numbers []int) api.Node {
	if operands[n.Op] > 0 {
		n.X = numbers[n.X]
	}
	if operands[n.Op] > 1 {
		n.Y = numbers[n.Y]
	}
	return n
}
