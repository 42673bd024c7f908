package bdd

// operands are the numbers of the functions that are combined. The constant false stands where an operation has no operand.
type operands struct{ x, y, z int }

// A rule returns the number of a result that is known without a look at the nodes of the operands, and whether it is. It is known if the first operand of three, or each one of two, is a constant.
type rule func(o operands) (int, bool)

func conjunction(o operands) (int, bool) {
	switch {
	case o.x == falseNumber || o.y == trueNumber || o.x == o.y:
		return o.x, true
	case o.y == falseNumber || o.x == trueNumber:
		return o.y, true
	}
	return 0, false
}

func disjunction(o operands) (int, bool) {
	switch {
	case o.x == trueNumber || o.y == falseNumber || o.x == o.y:
		return o.x, true
	case o.y == trueNumber || o.x == falseNumber:
		return o.y, true
	}
	return 0, false
}

func difference(o operands) (int, bool) {
	switch {
	case o.x == o.y:
		return falseNumber, true
	case o.x == falseNumber:
		return o.y, true
	case o.y == falseNumber:
		return o.x, true
	}
	return 0, false
}

// choice is y where x is true, and z elsewhere.
func choice(o operands) (int, bool) {
	switch {
	case o.x == trueNumber || o.y == o.z:
		return o.y, true
	case o.x == falseNumber:
		return o.z, true
	}
	return 0, false
}

// operation combines functions of a table, and keeps its results.
type operation struct {
	table   *table
	known   rule
	results map[operands]int
}

// operation returns the operation that a rule begins.
func (t *table) operation(known rule) operation {
	return operation{table: t, known: known, results: map[operands]int{}}
}

// apply returns the number of the result for operands.
func (p operation) apply(o operands) int {
	if number, ok := p.known(o); ok {
		return number
	}
	if number, ok := p.results[o]; ok {
		return number
	}
	v := p.table.firstVariable(o)
	low := p.apply(p.table.restricted(o, v, false))
	high := p.apply(p.table.restricted(o, v, true))
	number := p.table.number(v, low, high)
	p.results[o] = number
	return number
}

// variable returns the variable that a number tests; a constant comes after all variables.
func (t *table) variable(number int) int {
	if number < firstNode {
		return t.vars
	}
	return t.nodes[number-firstNode].Var
}

// firstVariable returns the lowest variable that operands test.
func (t *table) firstVariable(o operands) int {
	return min(t.variable(o.x), t.variable(o.y), t.variable(o.z))
}

// restricted returns the operands with their lowest variable set to a value.
func (t *table) restricted(o operands, v int, value bool) operands {
	branch := func(number int) int {
		switch {
		case t.variable(number) != v:
			return number
		case value:
			return t.nodes[number-firstNode].High
		}
		return t.nodes[number-firstNode].Low
	}
	return operands{x: branch(o.x), y: branch(o.y), z: branch(o.z)}
}
