package symset_test

import (
	"math"
	"math/rand/v2"
	"slices"
	"testing"

	"witting/api"
	"witting/bdd"
	"witting/symset"
)

// states returns the set of the states with k bits.
func states(k int) uint64 {
	s := uint64(0)
	for v := range 1 << k {
		s |= 1 << v
	}
	return s
}

// has reports whether a state is in a set.
func has(s uint64, v int) bool {
	return s>>v&1 == 1
}

// where returns the set of the states with k bits that pass a test.
func where(k int, test func(v int) bool) uint64 {
	s := uint64(0)
	for v := range 1 << k {
		if test(v) {
			s |= 1 << v
		}
	}
	return s
}

// assignment returns the assignment of a state and a next state: the bit i is the variable 2 * i, and 2 * i + 1.
func assignment(v, next int) uint64 {
	a := uint64(0)
	for i := range 12 {
		a |= uint64(v>>i&1)<<(2*i) | uint64(next>>i&1)<<(2*i+1)
	}
	return a
}

// allRelations returns all relations between states with k bits.
func allRelations(k int) [][]uint64 {
	l := [][]uint64{nil}
	for range 1 << k {
		var longer [][]uint64
		for _, r := range l {
			for successors := range uint64(1) << (1 << k) {
				longer = append(longer, append(slices.Clone(r), successors))
			}
		}
		l = longer
	}
	return l
}

// randomSet returns a set of states with k bits, from sparse to dense.
func randomSet(r *rand.Rand, k int) uint64 {
	s := r.Uint64()
	for range r.IntN(4) {
		s &= r.Uint64()
	}
	if r.IntN(3) == 0 {
		s = ^s
	}
	return s & states(k)
}

// randomRelation returns a relation between states with k bits: sparse, dense, or with few successors of each state.
func randomRelation(r *rand.Rand, k int) []uint64 {
	words := make([]uint64, 1<<k)
	kind := r.IntN(3)
	for v := range words {
		switch kind {
		case 0:
			words[v] = randomSet(r, k)
		case 1:
			words[v] = r.Uint64() & r.Uint64() & r.Uint64() & r.Uint64() & states(k)
		default:
			words[v] = 1<<r.IntN(1<<k) | 1<<r.IntN(1<<k)
		}
	}
	return words
}

// must returns a diagram that has no error.
func must(d api.Diagram, e int) api.Diagram {
	if e != api.OK {
		panic(e)
	}
	return d
}

// same reports whether two diagrams are equal.
func same(a, b api.Diagram) bool {
	return a.Vars == b.Vars && a.Root == b.Root && slices.Equal(a.Nodes, b.Nodes)
}

// result is what a function returns.
type result struct {
	d api.Diagram
	e int
}

// of joins what a function returns.
func of(d api.Diagram, e int) result {
	return result{d, e}
}

// isSet reports an error unless a result is the canonical diagram of a set of states with k bits.
func (r result) isSet(t *testing.T, k int, s uint64, what ...any) {
	t.Helper()
	s1, e := symset.Members(r.d)
	if r.e != api.OK || e != api.OK || s1 != s || !same(r.d, must(symset.Set(k, s))) {
		t.Fatalf("%x: %v, %d, with the members %x, %d, not %x", what, r.d, r.e, s1, e, s)
	}
}

// isRelation reports an error unless a result is the canonical diagram of a relation between states with k bits.
func (r result) isRelation(t *testing.T, k int, words []uint64, what ...any) {
	t.Helper()
	pairs, e := symset.Pairs(r.d)
	if r.e != api.OK || e != api.OK || !slices.Equal(pairs, words) || !same(r.d, must(symset.Relation(k, words))) {
		t.Fatalf("%x: %v, %d, with the pairs %x, %d, not %x", what, r.d, r.e, pairs, e, words)
	}
}

// equals reports an error unless a result is a diagram.
func (r result) equals(t *testing.T, d api.Diagram, what ...any) {
	t.Helper()
	if r.e != api.OK || !same(r.d, d) {
		t.Fatalf("%v: %v, %d, not %v", what, r.d, r.e, d)
	}
}

// fails reports an error unless a result is an error.
func (r result) fails(t *testing.T, e int, what ...any) {
	t.Helper()
	if r.e != e || !same(r.d, api.Diagram{}) {
		t.Fatalf("%.200v: %v, %d, not the error %d", what, r.d, r.e, e)
	}
}

// notRelations returns diagrams that are no relations, by their errors.
func notRelations() map[int][]api.Diagram {
	good := api.DiagramNode{Var: 2, Low: 0, High: 1}
	bad := map[int][]api.Diagram{
		api.ErrRange: {{Vars: -1}, {Vars: 25}, {Vars: math.MinInt}, {Vars: 26, Root: 1}, {Vars: 2, Nodes: []api.DiagramNode{good}, Root: 2}, {Vars: 1, Nodes: []api.DiagramNode{good}}},
		api.ErrLimit: {{Vars: 3, Nodes: make([]api.DiagramNode, 4097)}},
		api.ErrOrder: {{Vars: 3, Nodes: []api.DiagramNode{good, {Var: 2, Low: 2, High: 0}}}},
		api.ErrExist: {{Vars: 3, Nodes: []api.DiagramNode{good, good}, Root: 2}},
		api.ErrState: {{Vars: 3, Nodes: []api.DiagramNode{good}, Root: 1}, {Vars: 4, Nodes: []api.DiagramNode{good}}},
		api.ErrForm:  {{Vars: 4, Nodes: []api.DiagramNode{good}, Root: 3}, {Vars: 4, Nodes: []api.DiagramNode{{Var: 1, Low: 1, High: 1}}, Root: 2}, {Root: -1}},
	}
	for vars := 1; vars < 24; vars += 2 {
		bad[api.ErrForm] = append(bad[api.ErrForm], must(bdd.Const(vars, true)), must(bdd.Var(vars, 0)), must(bdd.Var(vars, vars-1)))
	}
	return bad
}

// notSets returns diagrams that are no sets, by their errors.
func notSets() map[int][]api.Diagram {
	bad := notRelations()
	for vars := 2; vars <= 24; vars += 2 {
		last := must(bdd.Var(vars, vars-1))
		bad[api.ErrArg] = append(bad[api.ErrArg], must(bdd.Var(vars, 1)), last, must(bdd.And(last, must(bdd.Var(vars, 0)))), must(bdd.Xor(last, must(bdd.Var(vars, vars-2)))))
	}
	return bad
}
