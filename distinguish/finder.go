package distinguish

import (
	"cmp"
	"slices"

	"witting/api"
	"witting/formula"
	"witting/relation"
	"witting/worldset"
)

// description is a formula and the set of the worlds at which it is true. The formula has no nodes if it has too many; neither has any one of which it is a part.
type description struct {
	f   []api.Node
	set uint64
}

// result returns the formula, or ErrLimit.
func (d description) result() ([]api.Node, int) {
	if len(d.f) == 0 {
		return nil, api.ErrLimit
	}
	return d.f, api.OK
}

// finder finds descriptions of the worlds of a valid model.
type finder struct {
	m      api.Model
	all    uint64 // the worlds of the model
	rounds [][]int
	found  map[[2]int]description // by pairs of worlds
}

// newFinder returns a finder that has not found anything yet.
func newFinder(m api.Model) *finder {
	return &finder{m: m, all: worldset.All(m.Worlds), rounds: rounds(m), found: map[[2]int]description{}}
}

// apart describes v, and not w, which is not bisimilar to it, with the least modal depth.
func (t *finder) apart(v, w int) description {
	n := firstApart(t.rounds, v, w)
	// Worlds that are together after n rounds agree on all formulas of modal depth n: the lowest ones stand for the others, so that there are fewer formulas.
	pair := [2]int{t.rounds[n][v], t.rounds[n][w]}
	d, found := t.found[pair]
	if !found {
		d = t.describe(pair[0], pair[1], n)
		t.found[pair] = d
	}
	return d
}

// describe describes v, and not w, from which it is apart after n rounds for the first time.
func (t *finder) describe(v, w, n int) description {
	if n == 0 {
		return t.byFact(v, w)
	}
	return t.bySuccessor(v, w, t.rounds[n-1])
}

// byFact describes v, and not w, by a fact that is true at one of them only.
func (t *finder) byFact(v, w int) description {
	for fact, s := range t.m.Val {
		inV, inW := worldset.Has(s, v), worldset.Has(s, w)
		switch {
		case inV && !inW:
			return description{formula.Fact(fact), s}
		case inW && !inV:
			return t.not(description{formula.Fact(fact), s})
		}
	}
	return description{}
}

// bySuccessor describes v, and not w, by a successor of one of them that is, in a partition, together with no successor of the other one.
func (t *finder) bySuccessor(v, w int, p []int) description {
	for agent, r := range t.m.Rel {
		if u := unmatched(p, r[v], r[w]); u >= 0 {
			return t.possible(agent, t.except(u, r[w]))
		}
		if u := unmatched(p, r[w], r[v]); u >= 0 {
			return t.not(t.possible(agent, t.except(u, r[v])))
		}
	}
	return description{}
}

// unmatched returns the lowest world of a set that is together with no world of another set, or -1.
func unmatched(p []int, s, others uint64) int {
	blocks, _ := worldset.Rename(others, p)
	for _, w := range worldset.Members(s) {
		if !worldset.Has(blocks, p[w]) {
			return w
		}
	}
	return -1
}

// except describes u, and none of the other worlds of a set; it is bisimilar to none of them.
func (t *finder) except(u int, others uint64) description {
	var parts [][]api.Node
	set := t.all
	for _, w := range t.closestFirst(u, others) {
		// A world that some part excludes already needs no part of its own.
		if worldset.Has(set, w) {
			d := t.apart(u, w)
			parts = append(parts, d.f)
			set &= d.set
		}
	}
	// Conjunctions with the same first parts share nodes, and the parts that many of them have are short ones.
	slices.SortFunc(parts, formula.Compare)
	return description{formula.All(parts), set}
}

// closestFirst returns the worlds of a set, first those that are together with u for the most rounds: what excludes them often excludes others, too.
func (t *finder) closestFirst(u int, others uint64) []int {
	l := worldset.Members(others)
	slices.SortStableFunc(l, func(v, w int) int {
		return cmp.Compare(firstApart(t.rounds, u, w), firstApart(t.rounds, u, v))
	})
	return l
}

// possible describes the worlds at which an agent considers a described world possible.
func (t *finder) possible(agent int, d description) description {
	return description{formula.Poss(agent, d.f), relation.Diamond(t.m.Rel[agent], d.set)}
}

// not describes the worlds that are not described.
func (t *finder) not(d description) description {
	return description{formula.Not(d.f), t.all &^ d.set}
}
