package resolution

import "slices"

// truths contains, for each variable, its literal that is true, or 0 if that is open.
type truths [maxVars]int

// truthsOf returns the truth values at which the literals of a clause in normal form are true.
func truthsOf(literals []int) truths {
	var t truths
	for _, literal := range literals {
		t = t.with(literal)
	}
	return t
}

// with returns the truth values at which a literal is true, too.
func (t truths) with(literal int) truths {
	t[variable(literal)] = literal
	return t
}

// literals returns the literals that are true.
func (t truths) literals() []int {
	return slices.DeleteFunc(slices.Clone(t[:]), func(literal int) bool { return literal == 0 })
}

// refutes reports whether all literals of a clause are false.
func (t truths) refutes(c []int) bool {
	for _, literal := range c {
		if t[variable(literal)] != -literal {
			return false
		}
	}
	return true
}

// unit returns the literal that must be true because all others of a clause are false, or 0.
func (t truths) unit(c []int) int {
	open := 0
	for _, literal := range c {
		switch t[variable(literal)] {
		case -literal:
		case literal:
			return 0
		default:
			if open != 0 {
				return 0
			}
			open = literal
		}
	}
	return open
}

// propagate returns the literals that are true in the end, and the index of the first clause that is false then, or -1.
func propagate(l [][]int, t truths) ([]int, int) {
	for {
		if conflict := slices.IndexFunc(l, t.refutes); conflict >= 0 {
			return t.literals(), conflict
		}
		next := slices.IndexFunc(l, func(c []int) bool { return t.unit(c) != 0 })
		if next < 0 {
			return t.literals(), -1
		}
		t = t.with(t.unit(l[next]))
	}
}
