package resolution

import (
	"cmp"
	"slices"

	"witting/api"
)

// isLiteral reports whether a number is a literal of n variables.
func isLiteral(n, literal int) bool {
	return literal != 0 && literal >= -n && literal <= n
}

// variable returns the variable of a literal.
func variable(literal int) int {
	return max(literal, -literal) - 1
}

// compareLiterals orders literals by their variables, and a negation before its variable.
func compareLiterals(a, b int) int {
	return cmp.Or(cmp.Compare(variable(a), variable(b)), cmp.Compare(a, b))
}

// checkClause returns the first error of a clause in normal form over n variables.
func checkClause(n int, c []int) int {
	before := -1
	for _, literal := range c {
		if !isLiteral(n, literal) {
			return api.ErrRange
		}
		if variable(literal) <= before {
			return api.ErrOrder
		}
		before = variable(literal)
	}
	return api.OK
}

// satisfies reports whether each clause has a literal that is true at a valuation.
func satisfies(l [][]int, v int) bool {
	isTrue := func(literal int) bool { return v>>variable(literal)&1 == 1 == (literal > 0) }
	for _, c := range l {
		if !slices.ContainsFunc(c, isTrue) {
			return false
		}
	}
	return true
}

// falseAt returns the clause of n variables that is false at one valuation only.
func falseAt(v, n int) []int {
	c := make([]int, n)
	for i := range c {
		c[i] = i + 1
		if v>>i&1 == 1 {
			c[i] = -c[i]
		}
	}
	return c
}
