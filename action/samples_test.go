package action_test

import (
	"math"
	"math/rand/v2"
	"slices"

	"witting/api"
	"witting/formula"
)

func has(s uint64, e int) bool {
	return s>>e&1 == 1
}

// below returns the set of the events below n.
func below(n int) uint64 {
	return 1<<n - 1
}

// example is the action model of the chapter's examples.
func example() api.Action {
	return api.Action{Pre: [][]api.Node{formula.Fact(0), formula.True()}, Post: [][]api.Assign{nil, {}}, Rel: [][]uint64{{1, 2}, {2, 2}}}
}

// operators returns nodes of all static operators, for so many agents and facts.
func operators(agents, facts int) []api.Node {
	l := []api.Node{{Op: api.OpTrue}, {Op: api.OpFalse}, {Op: api.OpNot}, {Op: api.OpAnd}, {Op: api.OpOr}, {Op: api.OpImp}, {Op: api.OpIff}}
	for i := range facts {
		l = append(l, api.Node{Op: api.OpFact, I: i})
	}
	for a := range agents {
		l = append(l, api.Node{Op: api.OpKnow, I: a}, api.Node{Op: api.OpPoss, I: a})
	}
	for g := 1; g < 1<<agents; g++ {
		l = append(l, api.Node{Op: api.OpEvery, G: g}, api.Node{Op: api.OpDist, G: g}, api.Node{Op: api.OpCommon, G: g})
	}
	return l
}

// operands returns how many operands a static operator has.
func operands(op int) int {
	switch op {
	case api.OpTrue, api.OpFalse, api.OpFact:
		return 0
	case api.OpAnd, api.OpOr, api.OpImp, api.OpIff, api.OpCommon:
		return 2
	}
	return 1
}

// randomFormula returns a list of up to so many nodes; it is seldom canonical.
func randomFormula(r *rand.Rand, size, agents, facts int) []api.Node {
	f, nodes := []api.Node{}, operators(agents, facts)
	for size = 1 + r.IntN(size); len(f) < size; {
		n := nodes[r.IntN(len(nodes))]
		count := operands(n.Op)
		if count > 0 && len(f) == 0 {
			continue
		}
		if count > 0 {
			n.X = r.IntN(len(f))
		}
		if count > 1 {
			n.Y = r.IntN(len(f))
		}
		f = append(f, n)
	}
	return f
}

// random returns a valid action model with relations from sparse to dense.
func random(r *rand.Rand, events, agents, facts int) api.Action {
	a := api.Action{}
	for range events {
		a.Pre = append(a.Pre, randomFormula(r, 10, agents, facts))
		post := []api.Assign{}
		for fact := range facts {
			if r.IntN(3) == 0 {
				post = append(post, api.Assign{Fact: fact, To: randomFormula(r, 10, agents, facts)})
			}
		}
		a.Post = append(a.Post, post)
	}
	for range agents {
		density, row := r.IntN(5), make([]uint64, events)
		for e := range row {
			row[e] = below(events)
			for range density {
				row[e] &= r.Uint64()
			}
		}
		a.Rel = append(a.Rel, row)
	}
	return a
}

// plain returns an action model with some relations whose events have no assignments, and the preconditions Fact 0, Fact 1 and so on.
func plain(rel ...[]uint64) api.Action {
	a := api.Action{Rel: rel}
	for e := range rel[0] {
		a.Pre, a.Post = append(a.Pre, formula.Fact(e)), append(a.Post, nil)
	}
	return a
}

// relations returns all relations of n events.
func relations(n int) [][]uint64 {
	l := [][]uint64{}
	for code := range uint64(1) << (n * n) {
		row := []uint64{}
		for e := range n {
			row = append(row, code>>(n*e)&below(n))
		}
		l = append(l, row)
	}
	return l
}

// closed returns a relation with what makes it reflexive, symmetric or transitive.
func closed(row []uint64, reflexive, symmetric, transitive bool) []uint64 {
	row = slices.Clone(row)
	for e := range row {
		if reflexive {
			row[e] |= 1 << e
		}
		for d := range row {
			if symmetric && has(row[e], d) {
				row[d] |= 1 << e
			}
		}
	}
	for via := range row {
		for e := range row {
			if transitive && has(row[e], via) {
				row[e] |= row[via]
			}
		}
	}
	return row
}

// samples returns valid action models: those at the limits, and random ones, of which a part has usual relations.
func samples() []api.Action {
	full := slices.Repeat([]uint64{255}, 8)
	l := []api.Action{example(), plain(full, full, full, full), {Pre: [][]api.Node{formula.False()}, Post: [][]api.Assign{nil}}}
	r := rand.New(rand.NewPCG(26, 1))
	for events := 1; events <= 8; events++ {
		for agents := range 5 {
			for range 3 {
				a := random(r, events, agents, r.IntN(9))
				l = append(l, a)
				kinds := r.IntN(8)
				usual := api.Action{Pre: a.Pre, Post: a.Post}
				for _, row := range a.Rel {
					usual.Rel = append(usual.Rel, closed(row, kinds&1 != 0, kinds&2 != 0, kinds&4 != 0))
				}
				l = append(l, usual)
			}
			l = append(l, random(r, events, agents, 8), random(r, events, agents, 0))
		}
	}
	return l
}

// copied returns a copy of an action model that shares no memory with it.
func copied(a api.Action) api.Action {
	c := api.Action{}
	for _, f := range a.Pre {
		c.Pre = append(c.Pre, slices.Clone(f))
	}
	for _, post := range a.Post {
		l := []api.Assign{}
		for _, assign := range post {
			l = append(l, api.Assign{Fact: assign.Fact, To: slices.Clone(assign.To)})
		}
		c.Post = append(c.Post, l)
	}
	for _, row := range a.Rel {
		c.Rel = append(c.Rel, slices.Clone(row))
	}
	return c
}

// noFormulas returns lists that are no formulas, with their errors.
func noFormulas() map[int][][]api.Node {
	return map[int][][]api.Node{
		api.ErrForm:  {nil, {}, {{Op: api.OpNot}}, {{Op: api.OpTrue, I: 1}}, {{Op: api.OpFact}, {Op: api.OpAnd, X: 0, Y: 1}}, {{Op: api.OpTrue}, {Op: api.OpNot, X: -1}}},
		api.ErrLimit: {slices.Repeat([]api.Node{{Op: api.OpTrue}}, 201), make([]api.Node, 1000)},
		api.ErrOp:    {{{}}, {{Op: 22}}, {{Op: -1}}, {{Op: api.OpTrue}, {Op: math.MaxInt}}},
		api.ErrRange: {{{Op: api.OpFact, I: 8}}, {{Op: api.OpFact, I: -1}}, {{Op: api.OpFact}, {Op: api.OpEvery}}, {{Op: api.OpTrue}, {Op: api.OpKnow, I: 4}}},
	}
}

// notStatic returns formulas with each operator that is not static; some do not fit two agents and three facts, too.
func notStatic() [][]api.Node {
	p, last := formula.Fact(0), formula.Fact(7)
	l := [][]api.Node{}
	for _, f := range [][]api.Node{p, last} {
		l = append(l, formula.Belief(0, f, p), formula.Safe(3, f), formula.Announce(f, p), formula.Act(0, 0, f), formula.Next(f), formula.Until(p, f), formula.Prev(f), formula.Since(f, p))
	}
	for _, f := range slices.Clone(l) {
		l = append(l, formula.Know(3, formula.Not(f)), formula.And(f, last))
	}
	return l
}

// notFitting returns static formulas that do not fit two agents and three facts.
func notFitting() [][]api.Node {
	p := formula.Fact(0)
	return [][]api.Node{formula.Fact(3), formula.Fact(7), formula.Not(formula.Fact(3)), formula.Know(2, p), formula.Poss(3, p), formula.Every(4, p), formula.Dist(5, p), formula.Common(8, p, p), formula.Or(p, formula.Every(15, p))}
}

// wrongFormulas returns all kinds of formulas that an action model for two agents and three facts cannot have, with their errors.
func wrongFormulas() map[int][][]api.Node {
	l := noFormulas()
	l[api.ErrOp] = append(l[api.ErrOp], notStatic()...)
	l[api.ErrRange] = append(l[api.ErrRange], notFitting()...)
	return l
}

// arguments are those of Check.
type arguments struct {
	action        api.Action
	agents, facts int
}

// base returns arguments without errors; each event has three assignments.
func base() arguments {
	a := api.Action{Rel: [][]uint64{{1, 7, 4}, {7, 0, 2}}}
	for range 3 {
		a.Pre = append(a.Pre, formula.Know(1, formula.Fact(2)))
		post := []api.Assign{}
		for fact := range 3 {
			post = append(post, api.Assign{Fact: fact, To: formula.Fact(fact)})
		}
		a.Post = append(a.Post, post)
	}
	return arguments{action: a, agents: 2, facts: 3}
}

// change makes an error.
type change struct {
	e  int
	do func(x *arguments)
}

// changes returns errors of all kinds; those of one list are checked before those of the next one.
func changes() [][]change {
	l := [][]change{numberChanges(), eventChanges(), shapeChanges(), relationChanges()}
	for event := range 3 {
		l = append(l, formulaChanges(func(x *arguments) *[]api.Node { return &x.action.Pre[event] }))
		for i := range 3 {
			facts := []change{}
			for _, fact := range []int{-1, 3, 8, math.MinInt, math.MaxInt} {
				facts = append(facts, change{api.ErrRange, func(x *arguments) { x.action.Post[event][i].Fact = fact }})
			}
			for fact := range i {
				facts = append(facts, change{api.ErrOrder, func(x *arguments) { x.action.Post[event][i].Fact = fact }})
			}
			l = append(l, facts, formulaChanges(func(x *arguments) *[]api.Node { return &x.action.Post[event][i].To }))
		}
	}
	return l
}

func numberChanges() []change {
	l := []change{}
	for _, n := range []int{-1, math.MinInt, math.MaxInt} {
		l = append(l, change{api.ErrRange, func(x *arguments) { x.agents = n }}, change{api.ErrRange, func(x *arguments) { x.facts = n }})
	}
	return append(l,
		change{api.ErrRange, func(x *arguments) { x.agents = 5 }},
		change{api.ErrRange, func(x *arguments) { x.agents, x.action.Rel = 5, slices.Repeat([][]uint64{{1, 2, 4}}, 5) }},
		change{api.ErrRange, func(x *arguments) { x.facts = 9 }},
	)
}

func eventChanges() []change {
	return []change{
		{api.ErrRange, func(x *arguments) { x.action.Pre = nil }},
		{api.ErrRange, func(x *arguments) { x.action = api.Action{Rel: make([][]uint64, 2)} }},
		{api.ErrRange, func(x *arguments) { x.action.Pre = slices.Repeat([][]api.Node{formula.True()}, 9) }},
		{api.ErrRange, func(x *arguments) { x.action = longer(x.action, 9) }},
		{api.ErrRange, func(x *arguments) { x.action.Pre = make([][]api.Node, 1000) }},
	}
}

// longer returns an action model with so many events.
func longer(a api.Action, events int) api.Action {
	for len(a.Pre) < events {
		a.Pre, a.Post = append(a.Pre, formula.True()), append(a.Post, nil)
		for agent := range a.Rel {
			a.Rel[agent] = append(a.Rel[agent], 1)
		}
	}
	return a
}

func shapeChanges() []change {
	l := []change{
		{api.ErrForm, func(x *arguments) { x.action.Post = nil }},
		{api.ErrForm, func(x *arguments) { x.action.Post = x.action.Post[:2] }},
		{api.ErrForm, func(x *arguments) { x.action.Post = append(x.action.Post, nil) }},
		{api.ErrForm, func(x *arguments) { x.action.Rel = nil }},
		{api.ErrForm, func(x *arguments) { x.action.Rel = x.action.Rel[:1] }},
		{api.ErrForm, func(x *arguments) { x.action.Rel = append(x.action.Rel, []uint64{1, 2, 4}) }},
		{api.ErrForm, func(x *arguments) { x.agents = 1 }},
		{api.ErrForm, func(x *arguments) { x.agents = 3 }},
	}
	for agent := range 2 {
		l = append(l,
			change{api.ErrForm, func(x *arguments) { x.action.Rel[agent] = nil }},
			change{api.ErrForm, func(x *arguments) { x.action.Rel[agent] = x.action.Rel[agent][:2] }},
			change{api.ErrForm, func(x *arguments) { x.action.Rel[agent] = append(x.action.Rel[agent], 0) }},
		)
	}
	return l
}

func relationChanges() []change {
	l := []change{}
	for agent := range 2 {
		for event := range 3 {
			for _, s := range []uint64{8, 15, 1 << 63, math.MaxUint64} {
				l = append(l, change{api.ErrRange, func(x *arguments) { x.action.Rel[agent][event] = s }})
			}
		}
	}
	return l
}

// formulaChanges returns all kinds of wrong formulas for one place.
func formulaChanges(place func(x *arguments) *[]api.Node) []change {
	l := []change{}
	each(wrongFormulas(), func(f []api.Node, e int) {
		l = append(l, change{e, func(x *arguments) { *place(x) = f }})
	})
	return l
}

// notValid returns action models that are not valid by themselves, with their errors.
func notValid() map[int][]api.Action {
	l := map[int][]api.Action{}
	add := func(e int, do func(a *api.Action)) {
		for _, a := range []api.Action{example(), base().action} {
			a = copied(a)
			do(&a)
			l[e] = append(l[e], a)
		}
	}
	add(api.ErrRange, func(a *api.Action) { *a = api.Action{} })
	add(api.ErrRange, func(a *api.Action) { a.Rel = slices.Repeat(a.Rel[:1], 5) })
	add(api.ErrRange, func(a *api.Action) { *a = longer(*a, 9) })
	add(api.ErrRange, func(a *api.Action) { a.Rel[1][1] |= 1 << len(a.Pre) })
	add(api.ErrForm, func(a *api.Action) { a.Post = a.Post[:1] })
	add(api.ErrForm, func(a *api.Action) { a.Rel[0] = a.Rel[0][:1] })
	add(api.ErrForm, func(a *api.Action) { a.Rel[1] = append(a.Rel[1], 1) })
	add(api.ErrRange, func(a *api.Action) { a.Pre[0] = formula.Know(2, formula.True()) })
	add(api.ErrRange, func(a *api.Action) { a.Post[1] = []api.Assign{{Fact: 8, To: formula.True()}} })
	add(api.ErrRange, func(a *api.Action) {
		a.Post[0] = []api.Assign{{Fact: 0, To: formula.True()}, {Fact: -1, To: formula.True()}}
	})
	add(api.ErrOrder, func(a *api.Action) {
		a.Post[1] = []api.Assign{{Fact: 7, To: formula.True()}, {Fact: 7, To: formula.True()}}
	})
	for _, f := range notStatic() {
		add(api.ErrOp, func(a *api.Action) { a.Pre[1] = f })
	}
	each(noFormulas(), func(f []api.Node, e int) {
		add(e, func(a *api.Action) { a.Pre[1] = f })
		add(e, func(a *api.Action) { a.Post[0] = []api.Assign{{Fact: 7, To: f}} })
	})
	return l
}

// each calls a function with each element of lists with errors.
func each[T any](lists map[int][]T, f func(x T, e int)) {
	for _, e := range []int{api.ErrRange, api.ErrForm, api.ErrLimit, api.ErrOrder, api.ErrOp} {
		for _, x := range lists[e] {
			f(x, e)
		}
	}
}

// isZero reports whether an action model is the zero value.
func isZero(a api.Action) bool {
	return len(a.Pre) == 0 && len(a.Post) == 0 && len(a.Rel) == 0
}
