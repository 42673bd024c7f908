package symset

import (
	"witting/api"
	"witting/bdd"
)

// maxBits is the greatest number of bits of states such that a word has a bit for each state.
const maxBits = 6

// Set returns the diagram of a set of states with k bits.
func Set(k int, s uint64) (api.Diagram, int) {
	if k < 0 || k > maxBits {
		return api.Diagram{}, api.ErrRange
	}
	if !areStates(k, s) {
		return api.Diagram{}, api.ErrArg
	}
	return build(2*k, variables(k, 2), 0, func(assignment uint64) bool {
		return s>>currentState(assignment)&1 == 1
	})
}

// Relation returns the diagram of a relation between states with k bits.
func Relation(k int, r []uint64) (api.Diagram, int) {
	if k < 0 || k > maxBits {
		return api.Diagram{}, api.ErrRange
	}
	if len(r) != 1<<k {
		return api.Diagram{}, api.ErrForm
	}
	for _, successors := range r {
		if !areStates(k, successors) {
			return api.Diagram{}, api.ErrArg
		}
	}
	return build(2*k, variables(2*k, 1), 0, func(assignment uint64) bool {
		return r[currentState(assignment)]>>nextState(assignment)&1 == 1
	})
}

// Members returns the states of a set.
func Members(d api.Diagram) (uint64, int) {
	if e := checkSet(d); e != api.OK {
		return 0, e
	}
	k := d.Vars / 2
	if k > maxBits {
		return 0, api.ErrRange
	}
	var s uint64
	read(d, variables(k, 2), 0, func(assignment uint64) {
		s |= 1 << currentState(assignment)
	})
	return s, api.OK
}

// Pairs returns the relation of a diagram.
func Pairs(d api.Diagram) ([]uint64, int) {
	if e := checkRelation(d); e != api.OK {
		return nil, e
	}
	k := d.Vars / 2
	if k > maxBits {
		return nil, api.ErrRange
	}
	r := make([]uint64, 1<<k)
	read(d, variables(2*k, 1), 0, func(assignment uint64) {
		r[currentState(assignment)] |= 1 << nextState(assignment)
	})
	return r, api.OK
}

// areStates reports whether a word has bits of states with k bits only.
func areStates(k int, s uint64) bool {
	// A shift by 64 leaves 0, so that six bits need no case of their own.
	return s>>(1<<k) == 0
}

// variables returns count variables from 0 on, each one so many places after the one before.
func variables(count, places int) []int {
	l := make([]int, count)
	for i := range l {
		l[i] = i * places
	}
	return l
}

// currentState returns the state of an assignment.
func currentState(assignment uint64) int {
	return state(assignment, 0)
}

// nextState returns the next state of an assignment.
func nextState(assignment uint64) int {
	return state(assignment, 1)
}

// state returns the state whose bits are those of every second variable of an assignment.
func state(assignment uint64, first int) int {
	v := 0
	for i := range maxBits {
		v |= int(assignment>>(2*i+first)&1) << i
	}
	return v
}

// build returns the diagram with a value for each assignment, by the cases of the variables that are not decided in the assignment yet. It depends on these only.
func build(vars int, undecided []int, assignment uint64, value func(assignment uint64) bool) (api.Diagram, int) {
	if len(undecided) == 0 {
		return bdd.Const(vars, value(assignment))
	}
	v, rest := undecided[0], undecided[1:]
	var c calculation
	low := c.take(build(vars, rest, assignment, value))
	high := c.take(build(vars, rest, assignment|1<<v, value))
	return c.result(c.take(bdd.Ite(c.take(bdd.Var(vars, v)), high, low)))
}

// read calls found for the assignments at which a diagram is true, by the cases of the variables that are not decided in the assignment yet. It depends on these only.
// Restrict makes ever smaller diagrams: Eval would check the whole one for each assignment.
func read(d api.Diagram, undecided []int, assignment uint64, found func(assignment uint64)) {
	if bdd.Count(d) == 0 {
		return
	}
	if len(undecided) == 0 {
		found(assignment)
		return
	}
	v, rest := undecided[0], undecided[1:]
	for bit, value := range []bool{false, true} {
		// A restricted diagram is not larger, so that there is no error.
		part, _ := bdd.Restrict(d, v, value)
		read(part, rest, assignment|uint64(bit)<<v, found)
	}
}
