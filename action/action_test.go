package action_test

import (
	"math"
	"math/rand/v2"
	"slices"
	"testing"

	"witting/action"
	"witting/api"
	"witting/formula"
)

// TestExamples is the chapter's example.
func TestExamples(t *testing.T) {
	a := example()
	if e := action.Check(a, 2, 1); e != api.OK {
		t.Error("Check:", e)
	}
	if !action.In(a, api.LogicKD45) || action.In(a, api.LogicS5) {
		t.Error("In:", action.In(a, api.LogicKD45), action.In(a, api.LogicS5))
	}
	one := api.Action{Pre: [][]api.Node{formula.True()}, Post: [][]api.Assign{nil}, Rel: [][]uint64{{1}, {1}}}
	if part, events, e := action.Generated(a, 1); !sameLists(part, one, slices.Equal) || !slices.Equal(events, []int{1}) || e != api.OK {
		t.Error("Generated from 1:", part, events, e)
	}
	if part, events, e := action.Generated(a, 0); !sameLists(part, a, slices.Equal) || !slices.Equal(events, []int{0, 1}) || e != api.OK {
		t.Error("Generated from 0:", part, events, e)
	}
	if l := action.Group(a, 3); !slices.Equal(l, []uint64{3, 2}) {
		t.Error("Group:", l)
	}
	if l := action.Meet(a, 3); !slices.Equal(l, []uint64{0, 2}) {
		t.Error("Meet:", l)
	}
	if f, e := action.Value(a, 0, 0); !slices.Equal(f, formula.Fact(0)) || e != api.OK {
		t.Error("Value:", f, e)
	}
}

// TestCheck is P26.1: valid action models, for the numbers of agents and facts that fit.
func TestCheck(t *testing.T) {
	for _, a := range samples() {
		used := 0
		for e, f := range a.Pre {
			used |= formula.Facts(f)
			for _, assign := range a.Post[e] {
				used |= formula.Facts(assign.To) | 1<<assign.Fact
			}
		}
		for agents := -1; agents <= 5; agents++ {
			for facts := -1; facts <= 9; facts++ {
				want := api.OK
				switch {
				case agents < 0 || agents > 4 || facts < 0 || facts > 8:
					want = api.ErrRange
				case agents != len(a.Rel):
					want = api.ErrForm
				case used >= 1<<facts:
					want = api.ErrRange
				}
				if e := action.Check(a, agents, facts); e != want {
					t.Errorf("Check(%v, %d, %d) is %d, not %d", a, agents, facts, e, want)
				}
			}
		}
	}
	if e := action.Check(base().action, 2, 3); e != api.OK {
		t.Error("Check of the base:", e)
	}
}

// check checks the error of arguments.
func check(t *testing.T, x arguments, want int) {
	t.Helper()
	if e := action.Check(x.action, x.agents, x.facts); e != want {
		t.Errorf("Check(%v, %d, %d) is %d, not %d", x.action, x.agents, x.facts, e, want)
	}
}

// TestErrorsOfCheck is P26.1: each error alone, and pairs of errors at different places, of which the first one is returned.
func TestErrorsOfCheck(t *testing.T) {
	r := rand.New(rand.NewPCG(26, 3))
	places := changes()
	for i, first := range places {
		for _, c := range first {
			x := base()
			c.do(&x)
			check(t, x, c.e)
		}
		for _, second := range places[i+1:] {
			for range 60 {
				c, later := first[r.IntN(len(first))], second[r.IntN(len(second))]
				x := base()
				later.do(&x)
				c.do(&x)
				check(t, x, c.e)
			}
		}
	}
}

// TestErrorsAtOnePlace is P26.1: the order of errors that one list or relation has.
func TestErrorsAtOnePlace(t *testing.T) {
	p := formula.Fact(0)
	// The number of events comes before what the lists contain, and all lengths come before the sets.
	x := base()
	x.action.Rel[0], x.action.Rel[1] = []uint64{8, 8, 8}, []uint64{1, 1}
	check(t, x, api.ErrForm)
	// An assignment of a fact that there is not is ErrRange, also where its place would be wrong.
	x = base()
	x.action.Post[1] = []api.Assign{{Fact: 2, To: p}, {Fact: 1, To: p}, {Fact: -1, To: nil}}
	check(t, x, api.ErrOrder)
	x.action.Post[1] = []api.Assign{{Fact: 2, To: p}, {Fact: -1, To: nil}, {Fact: 1, To: p}}
	check(t, x, api.ErrRange)
	x.action.Post[1] = []api.Assign{{Fact: 2, To: nil}, {Fact: 1, To: p}}
	check(t, x, api.ErrForm)
	x.action.Post[1] = []api.Assign{{Fact: 2, To: p}, {Fact: 2, To: nil}}
	check(t, x, api.ErrOrder)
	// Without facts there are no assignments.
	x = arguments{action: api.Action{Pre: [][]api.Node{formula.True()}, Post: [][]api.Assign{{{Fact: 0, To: formula.True()}}}}}
	check(t, x, api.ErrRange)
	x.facts = 1
	check(t, x, api.OK)
	for _, f := range notStatic() {
		x.action.Pre[0] = f
		check(t, x, api.ErrOp)
		// What the whole formula does not use does not count.
		x.action.Pre[0] = append(slices.Clone(f), api.Node{Op: api.OpFact})
		check(t, x, api.OK)
	}
}

// messy returns a list that is equal to a formula, but not canonical.
func messy(f []api.Node) []api.Node {
	l := []api.Node{{Op: api.OpFact, I: 7}, {Op: api.OpNext}}
	for _, n := range formula.Compact(f) {
		count := operands(n.Op)
		if count > 0 {
			n.X += 2
		}
		if count > 1 {
			n.Y += 2
		}
		l = append(l, n)
	}
	return l
}

// messyAction returns an action model that is equal, up to the form of its formulas.
func messyAction(a api.Action) api.Action {
	c := copied(a)
	for e, f := range c.Pre {
		c.Pre[e] = messy(f)
		for i, assign := range c.Post[e] {
			c.Post[e][i].To = messy(assign.To)
		}
	}
	return c
}

// TestSame is P26.1: equal action models, in other forms, and such that differ in one place.
func TestSame(t *testing.T) {
	l := samples()
	for i, a := range l {
		m := messyAction(a)
		if !action.Same(a, a) || !action.Same(a, m) || !action.Same(m, a) || !action.Same(m, copied(a)) {
			t.Errorf("Same of %v and itself", a)
		}
		for _, b := range l[i+1 : min(i+12, len(l))] {
			want := sameLists(a, b, sameFormula)
			if action.Same(a, b) != want || action.Same(b, m) != want {
				t.Errorf("Same(%v, %v) is not %t", a, b, want)
			}
		}
		for _, b := range different(a) {
			if action.Same(a, b) || action.Same(b, a) || !action.Same(b, b) {
				t.Errorf("Same(%v, %v)", a, b)
			}
		}
	}
	each(notValid(), func(a api.Action, e int) {
		if action.Same(a, a) || action.Same(a, example()) || action.Same(example(), a) {
			t.Errorf("Same of %v, which is not valid", a)
		}
	})
}

// different returns valid action models that differ from one in one place.
func different(a api.Action) []api.Action {
	l := []api.Action{}
	add := func(do func(b *api.Action)) {
		b := copied(a)
		do(&b)
		l = append(l, b)
	}
	last := len(a.Pre) - 1
	for _, e := range []int{0, last} {
		add(func(b *api.Action) { b.Pre[e] = formula.Not(b.Pre[e]) })
		if count := len(a.Post[e]); count > 0 {
			add(func(b *api.Action) { b.Post[e] = b.Post[e][1:] })
			add(func(b *api.Action) { b.Post[e] = b.Post[e][:count-1] })
			add(func(b *api.Action) { b.Post[e][count-1].To = formula.Not(b.Post[e][count-1].To) })
			if a.Post[e][0].Fact > 0 {
				add(func(b *api.Action) { b.Post[e][0].Fact = 0 })
			}
		} else {
			add(func(b *api.Action) { b.Post[e] = []api.Assign{{Fact: 7, To: formula.Fact(7)}} })
		}
		for agent := range a.Rel {
			add(func(b *api.Action) { b.Rel[agent][e] ^= 1 })
			add(func(b *api.Action) { b.Rel[agent][e] ^= 1 << last })
		}
	}
	if last < 7 {
		add(func(b *api.Action) { *b = longer(*b, last+2) })
	}
	if len(a.Rel) < 4 {
		add(func(b *api.Action) { b.Rel = append(b.Rel, slices.Repeat([]uint64{1}, last+1)) })
	}
	return l
}

// TestPublic is P26.1 for Skip and Public.
func TestPublic(t *testing.T) {
	r := rand.New(rand.NewPCG(26, 4))
	want := api.Action{Post: [][]api.Assign{nil}}
	for agents := range 5 {
		want.Pre = [][]api.Node{formula.True()}
		if a, e := action.Skip(agents); !sameLists(a, want, slices.Equal) || e != api.OK {
			t.Errorf("Skip(%d) is %v, %d", agents, a, e)
		}
		for range 50 {
			f := randomFormula(r, 20, agents, 8)
			for _, g := range [][]api.Node{f, messy(f), formula.Compact(f)} {
				want.Pre = [][]api.Node{formula.Compact(f)}
				if a, e := action.Public(agents, g); !sameLists(a, want, slices.Equal) || e != api.OK {
					t.Errorf("Public(%d, %v) is %v, %d", agents, g, a, e)
				}
			}
		}
		want.Rel = append(want.Rel, []uint64{1})
	}
}

// TestErrorsOfPublic is P26.1: the errors of Skip and Public in their order.
func TestErrorsOfPublic(t *testing.T) {
	check := func(agents int, f []api.Node, want int) {
		t.Helper()
		if a, e := action.Public(agents, f); !isZero(a) || e != want {
			t.Errorf("Public(%d, %v) is %v, %d, not %d", agents, f, a, e, want)
		}
	}
	for _, agents := range []int{-1, 5, 64, math.MinInt, math.MaxInt} {
		if a, e := action.Skip(agents); !isZero(a) || e != api.ErrRange {
			t.Errorf("Skip(%d) is %v, %d", agents, a, e)
		}
		check(agents, formula.True(), api.ErrRange)
		each(noFormulas(), func(f []api.Node, e int) { check(agents, f, api.ErrRange) })
		for _, f := range notStatic() {
			check(agents, f, api.ErrRange)
		}
	}
	for agents := range 5 {
		each(noFormulas(), func(f []api.Node, e int) { check(agents, f, e) })
		for _, f := range notStatic() {
			check(agents, f, api.ErrOp)
		}
		for agent := agents; agent < 4; agent++ {
			check(agents, formula.Know(agent, formula.True()), api.ErrRange)
			check(agents, formula.Or(formula.Dist(1<<agent, formula.Fact(7)), formula.Fact(7)), api.ErrRange)
		}
	}
}

// logics are the seven logics and numbers that are none.
func logics() []int {
	return []int{0, 1, 2, 3, 4, 5, 6, -1, 7, math.MinInt, math.MaxInt}
}

// checkIn is P26.1 for In, for a valid action model.
func checkIn(t *testing.T, a api.Action) {
	t.Helper()
	for _, logic := range logics() {
		want := logic >= 0 && logic <= 6
		for _, row := range a.Rel {
			want = want && inLogic(row, logic)
		}
		if got := action.In(a, logic); got != want {
			t.Fatalf("In(%v, %d) is %t", a, logic, got)
		}
	}
}

// TestIn is P26.1: all relations of up to three events, alone and with a second one.
func TestIn(t *testing.T) {
	r := rand.New(rand.NewPCG(26, 5))
	for n := 1; n <= 3; n++ {
		l := relations(n)
		for _, row := range l {
			checkIn(t, plain(row))
			checkIn(t, plain(row, l[r.IntN(len(l))]))
			checkIn(t, plain(closed(row, true, true, true), row))
		}
	}
	for _, a := range samples() {
		checkIn(t, a)
	}
	each(notValid(), func(a api.Action, e int) {
		for _, logic := range logics() {
			if action.In(a, logic) {
				t.Errorf("In(%v, %d), which is not valid", a, logic)
			}
		}
	})
}

// TestGroup is P26.1 for Group and Meet: all groups, and numbers that are none.
func TestGroup(t *testing.T) {
	for _, a := range samples() {
		n := len(a.Rel)
		for group := 1; group < 1<<n; group++ {
			if l := action.Group(a, group); !slices.Equal(l, groupOf(a, group, false)) {
				t.Errorf("Group(%v, %d) is %v", a, group, l)
			}
			if l := action.Meet(a, group); !slices.Equal(l, groupOf(a, group, true)) {
				t.Errorf("Meet(%v, %d) is %v", a, group, l)
			}
		}
		for _, group := range []int{0, -1, 1 << n, 1<<n + 1, 16, math.MinInt, math.MaxInt} {
			if l, m := action.Group(a, group), action.Meet(a, group); len(l) != 0 || len(m) != 0 {
				t.Errorf("Group and Meet of %v, %d are %v, %v", a, group, l, m)
			}
		}
	}
	each(notValid(), func(a api.Action, e int) {
		for _, group := range []int{0, 1, 3} {
			if l, m := action.Group(a, group), action.Meet(a, group); len(l) != 0 || len(m) != 0 {
				t.Errorf("Group and Meet of %v, which is not valid, are %v, %v", a, l, m)
			}
		}
	})
}

// checkGenerated is P26.1 for Generated, for a valid action model.
func checkGenerated(t *testing.T, a api.Action) {
	t.Helper()
	for event := range a.Pre {
		want, wantEvents := generatedOf(a, event)
		if part, events, e := action.Generated(a, event); !sameLists(part, want, slices.Equal) || !slices.Equal(events, wantEvents) || e != api.OK {
			t.Fatalf("Generated(%v, %d) is %v, %v, %d", a, event, part, events, e)
		}
	}
}

// TestGenerated is P26.1: all relations of up to three events, chains, and random action models.
func TestGenerated(t *testing.T) {
	r := rand.New(rand.NewPCG(26, 6))
	for n := 1; n <= 3; n++ {
		l := relations(n)
		for _, row := range l {
			checkGenerated(t, plain(row))
			checkGenerated(t, plain(row, l[r.IntN(len(l))]))
		}
	}
	for range 50 {
		// Two agents in turn lead through the events in some order.
		order, rel := r.Perm(8), [][]uint64{make([]uint64, 8), make([]uint64, 8)}
		for i := range 7 {
			rel[i%2][order[i]] |= 1 << order[i+1]
		}
		a := plain(rel...)
		checkGenerated(t, a)
		if part, _, e := action.Generated(a, order[0]); len(part.Pre) != 8 || e != api.OK {
			t.Error("a chain:", a, part, e)
		}
	}
	for _, a := range samples() {
		checkGenerated(t, a)
	}
}

// TestValue is P26.1: the formulas that facts get by events.
func TestValue(t *testing.T) {
	for _, a := range samples() {
		for event, post := range a.Post {
			for fact := range 8 {
				want := formula.Fact(fact)
				for _, assign := range post {
					if assign.Fact == fact {
						want = formula.Compact(assign.To)
					}
				}
				if f, e := action.Value(a, event, fact); !slices.Equal(f, want) || e != api.OK {
					t.Errorf("Value(%v, %d, %d) is %v, %d", a, event, fact, f, e)
				}
			}
		}
	}
}

// checkError checks that Generated and Value return an error.
func checkError(t *testing.T, a api.Action, event, fact, want, wantValue int) {
	t.Helper()
	if part, events, e := action.Generated(a, event); e != want || e != api.OK && (!isZero(part) || len(events) != 0) {
		t.Errorf("Generated(%v, %d) is %v, %v, %d, not %d", a, event, part, events, e, want)
	}
	if f, e := action.Value(a, event, fact); e != wantValue || e != api.OK && len(f) != 0 {
		t.Errorf("Value(%v, %d, %d) is %v, %d, not %d", a, event, fact, f, e, wantValue)
	}
}

// TestErrors is P26.1: the errors of Generated and Value in their order.
func TestErrors(t *testing.T) {
	outside := func(n int) []int { return []int{-1, n, n + 1, 64, math.MinInt, math.MaxInt} }
	each(notValid(), func(a api.Action, e int) {
		for _, event := range []int{0, 1, -1, 8} {
			checkError(t, a, event, 0, e, e)
			checkError(t, a, event, 8, e, e)
		}
	})
	for _, a := range samples() {
		events := len(a.Pre)
		for _, event := range outside(events) {
			for _, fact := range []int{0, 7, 8, -1} {
				checkError(t, a, event, fact, api.ErrNone, api.ErrNone)
			}
		}
		for _, fact := range outside(8) {
			checkError(t, a, events-1, fact, api.OK, api.ErrRange)
		}
	}
}
