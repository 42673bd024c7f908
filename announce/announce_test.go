package announce_test

import (
	"math"
	"math/rand/v2"
	"slices"
	"testing"

	"witting/announce"
	"witting/api"
	"witting/checker"
	"witting/formula"
	"witting/model"
)

// TestExamples is the chapter's example.
func TestExamples(t *testing.T) {
	p, q := formula.Fact(0), formula.Fact(1)
	some := formula.Or(p, q)
	neither := formula.And(ignorant(0, p), ignorant(1, q))
	first := api.Model{Worlds: 3, Val: []uint64{5, 6}, Rel: [][]uint64{{1, 6, 6}, {5, 2, 5}}}
	if m, l, e := announce.Update(hats(), some); !model.Same(m, first) || !slices.Equal(l, []int{1, 2, 3}) || e != api.OK {
		t.Error("Update of p or q:", m, l, e)
	}
	last := api.Model{Worlds: 1, Val: []uint64{1, 1}, Rel: [][]uint64{{1}, {1}}}
	if m, l, e := announce.Update(first, neither); !model.Same(m, last) || !slices.Equal(l, []int{2}) || e != api.OK {
		t.Error("Update of neither knows:", m, l, e)
	}
	if m, l, n, e := announce.Sequence(hats(), [][]api.Node{some, neither}); !model.Same(m, last) || !slices.Equal(l, []int{3}) || n != 2 || e != api.OK {
		t.Error("Sequence:", m, l, n, e)
	}
	if yes, e := announce.Successful(hats(), 1, unknown(1, p)); yes || e != api.ErrFalse {
		t.Error("p and not K1 p at the world 1:", yes, e)
	}
	mistaken := unknown(1, q)
	if s, e := checker.Holds(hats(), mistaken); s != 12 || e != api.OK {
		t.Error("q and not K1 q holds at", s, e)
	}
	for _, w := range []int{2, 3} {
		if yes, e := announce.Successful(hats(), w, mistaken); yes || e != api.OK {
			t.Error("q and not K1 q is successful at", w, yes, e)
		}
		if learnt, lost, e := announce.Change(hats(), w, mistaken, 1, [][]api.Node{q, p, mistaken, formula.Not(q)}); !slices.Equal(learnt, []int{0}) || len(lost) != 0 || e != api.OK {
			t.Error("Change of agent 1 at", w, learnt, lost, e)
		}
	}
}

// checkUpdate is P25.1, for a formula that fits a model.
func checkUpdate(t *testing.T, m api.Model, f []api.Node) {
	t.Helper()
	set := holdsIn(m, worldsBelow(m.Worlds), f)
	after, worlds, e := announce.Update(m, f)
	if set == 0 {
		if !isZero(after) || len(worlds) != 0 || e != api.ErrFalse {
			t.Fatalf("Update(%v, %v) is %v, %v, %d", m, f, after, worlds, e)
		}
		return
	}
	if !model.Same(after, modelOf(m, set)) || !slices.Equal(worlds, listOf(set)) || e != api.OK {
		t.Fatalf("Update(%v, %v) is %v, %v, %d", m, f, after, worlds, e)
	}
}

// checkSequence is P25.2, for formulas that fit a model; it reports how many can be announced.
func checkSequence(t *testing.T, m api.Model, l [][]api.Node) int {
	t.Helper()
	alive, count, want := worldsBelow(m.Worlds), 0, api.OK
	for _, f := range l {
		set := holdsIn(m, alive, f)
		if set == 0 {
			want = api.ErrFalse
			break
		}
		alive = set
		count++
	}
	after, worlds, n, e := announce.Sequence(m, l)
	right := model.Same(after, modelOf(m, alive)) && slices.Equal(worlds, listOf(alive))
	if want != api.OK {
		right = isZero(after) && len(worlds) == 0
	}
	if !right || n != count || e != want {
		t.Fatalf("Sequence(%v, %v) is %v, %v, %d, %d", m, l, after, worlds, n, e)
	}
	return count
}

// checkWhether is P25.3, for a formula that fits a model.
func checkWhether(t *testing.T, m api.Model, f []api.Node) {
	t.Helper()
	if after, e := announce.Whether(m, f); !model.Same(after, askedOf(m, f)) || e != api.OK {
		t.Fatalf("Whether(%v, %v) is %v, %d", m, f, after, e)
	}
}

// checkSuccessful is P25.4, for a formula that fits a model; it reports how many times the formula is false afterwards.
func checkSuccessful(t *testing.T, m api.Model, f []api.Node) int {
	t.Helper()
	before := holdsIn(m, worldsBelow(m.Worlds), f)
	after, unsuccessful := holdsIn(m, before, f), 0
	for w := range m.Worlds {
		want := api.OK
		if !has(before, w) {
			want = api.ErrFalse
		} else if !has(after, w) {
			unsuccessful++
		}
		if yes, e := announce.Successful(m, w, f); yes != has(after, w) || e != want {
			t.Fatalf("Successful(%v, %d, %v) is %t, %d", m, w, f, yes, e)
		}
	}
	return unsuccessful
}

// checkRepeat is P25.5, for a formula that fits a model; it returns the number of announcements.
func checkRepeat(t *testing.T, m api.Model, f []api.Node) int {
	t.Helper()
	alive, count := worldsBelow(m.Worlds), 0
	for set := holdsIn(m, alive, f); set != 0 && set != alive; set = holdsIn(m, alive, f) {
		alive = set
		count++
	}
	after, worlds, n, e := announce.Repeat(m, f)
	if !model.Same(after, modelOf(m, alive)) || !slices.Equal(worlds, listOf(alive)) || n != count || e != api.OK {
		t.Fatalf("Repeat(%v, %v) is %v, %v, %d, %d", m, f, after, worlds, n, e)
	}
	return n
}

// checkChange is P25.6, for formulas that fit a model; it reports how many formulas are learnt and lost in all.
func checkChange(t *testing.T, m api.Model, f []api.Node, l [][]api.Node) (int, int) {
	t.Helper()
	all := worldsBelow(m.Worlds)
	set, learntInAll, lostInAll := holdsIn(m, all, f), 0, 0
	before, after := [][][]bool{}, [][][]bool{}
	for _, g := range l {
		before, after = append(before, knowledge(m, all, g)), append(after, knowledge(m, set, g))
	}
	for w := range m.Worlds {
		for agent := range m.Rel {
			learnt, lost, want := []int{}, []int{}, api.OK
			for i := range l {
				knew, knows := before[i][agent][w], after[i][agent][w]
				if !knew && knows {
					learnt = append(learnt, i)
				}
				if knew && !knows {
					lost = append(lost, i)
				}
			}
			if !has(set, w) {
				learnt, lost, want = nil, nil, api.ErrFalse
			}
			if a, b, e := announce.Change(m, w, f, agent, l); !slices.Equal(a, learnt) || !slices.Equal(b, lost) || e != want {
				t.Fatalf("Change(%v, %d, %v, %d, %v) is %v, %v, %d, not %v, %v", m, w, f, agent, l, a, b, e, learnt, lost)
			}
			learntInAll += len(learnt)
			lostInAll += len(lost)
		}
	}
	return learntInAll, lostInAll
}

// checkAll compares all functions with the chapter's definitions.
func checkAll(t *testing.T, m api.Model, f []api.Node, others [][]api.Node) {
	t.Helper()
	checkUpdate(t, m, f)
	checkWhether(t, m, f)
	checkSuccessful(t, m, f)
	checkRepeat(t, m, f)
	checkSequence(t, m, append([][]api.Node{f}, others...))
	checkChange(t, m, f, others)
}

// TestSmall is P25.1 to P25.6: all lists of up to three nodes in all models of up to two worlds, with a fact and an agent.
func TestSmall(t *testing.T) {
	r := rand.New(rand.NewPCG(25, 2))
	for _, m := range slices.Concat(small(1), small(2)) {
		for _, f := range allFormulas(3) {
			checkAll(t, m, f, formulas(r, r.IntN(2), m))
		}
	}
}

// TestThreeWorlds is P25.1 to P25.6: all models of three worlds with a fact and an agent.
func TestThreeWorlds(t *testing.T) {
	r := rand.New(rand.NewPCG(25, 3))
	p := formula.Fact(0)
	for _, m := range small(3) {
		for _, f := range [][]api.Node{p, unknown(0, p), formula.Poss(0, p), randomFormula(r, 1+r.IntN(12), 1, 1)} {
			checkAll(t, m, f, append(formulas(r, 2, m), ignorant(0, p)))
		}
	}
}

// TestRandom is P25.1 to P25.6: random formulas in models of all sizes.
func TestRandom(t *testing.T) {
	r := rand.New(rand.NewPCG(25, 4))
	unsuccessful, repeated, learnt, lost, sequences := 0, 0, 0, 0, 0
	for _, m := range samples() {
		for i := range 8 {
			f, others := formulas(r, 1, m)[0], formulas(r, 6, m)
			if agents := len(m.Rel); agents > 0 && i%2 == 0 {
				f = unknown(r.IntN(agents), f)
				others[0] = ignorant(r.IntN(agents), others[1])
			}
			checkUpdate(t, m, f)
			checkWhether(t, m, f)
			unsuccessful += checkSuccessful(t, m, f)
			again := f
			if agents := len(m.Rel); agents > 0 {
				again = formula.Poss(r.IntN(agents), f)
			}
			if checkRepeat(t, m, f) > 1 || checkRepeat(t, m, again) > 1 {
				repeated++
			}
			if checkSequence(t, m, others) > 2 {
				sequences++
			}
			a, b := checkChange(t, m, f, others)
			learnt, lost = learnt+a, lost+b
		}
		checkUpdate(t, m, randomFormula(r, 200, len(m.Rel), len(m.Val)))
		checkWhether(t, m, randomFormula(r, 200, len(m.Rel), len(m.Val)))
	}
	if min(unsuccessful, repeated, learnt, lost, sequences) < 50 {
		t.Error("cases:", unsuccessful, repeated, learnt, lost, sequences)
	}
}

// TestSequence is P25.2: no announcement, many, and those that say nothing.
func TestSequence(t *testing.T) {
	for _, m := range samples() {
		all := listOf(worldsBelow(m.Worlds))
		for _, l := range [][][]api.Node{nil, {}, {formula.True()}, slices.Repeat([][]api.Node{formula.True()}, 300)} {
			if after, worlds, n, e := announce.Sequence(m, l); !model.Same(after, m) || !slices.Equal(worlds, all) || n != len(l) || e != api.OK {
				t.Errorf("Sequence of %d formulas in %v is %v, %v, %d, %d", len(l), m, after, worlds, n, e)
			}
		}
	}
	// Each announcement is made in the model after the ones before: the last world of a chain has no successor.
	step := formula.Poss(0, formula.True())
	for n := range 63 {
		if checkSequence(t, chain(64), slices.Repeat([][]api.Node{step}, n)) != n {
			t.Error("announcements in a chain:", n)
		}
	}
	for _, n := range []int{64, 65, 100} {
		if after, worlds, count, e := announce.Sequence(chain(64), slices.Repeat([][]api.Node{step}, n)); !isZero(after) || len(worlds) != 0 || count != 63 || e != api.ErrFalse {
			t.Error("too many announcements in a chain:", n, after, worlds, count, e)
		}
	}
}

// TestRepeat is P25.5: as many announcements as possible, and formulas that hold everywhere or nowhere at once or in the end.
func TestRepeat(t *testing.T) {
	for worlds := 1; worlds <= 64; worlds++ {
		if n := checkRepeat(t, chain(worlds), formula.Poss(0, formula.True())); n != worlds-1 {
			t.Error("announcements in a chain:", worlds, n)
		}
		// By a fact the formula holds at the first world, so that it holds everywhere in the end.
		m := chain(worlds)
		m.Val[0] = 1
		if n := checkRepeat(t, m, formula.Or(formula.Fact(0), formula.Poss(0, formula.True()))); n != worlds-1 {
			t.Error("announcements in a chain whose first world is kept:", worlds, n)
		}
	}
	for _, m := range samples() {
		for _, f := range [][]api.Node{formula.True(), formula.False()} {
			if n := checkRepeat(t, m, f); n != 0 {
				t.Error("announcements of", f, n)
			}
		}
	}
}

// TestMuddyChildren is P25.5: with k muddy children of n, the k-th question is the first one that some child can answer.
func TestMuddyChildren(t *testing.T) {
	for n := 1; n <= 4; n++ {
		m := api.Model{Worlds: 1 << n}
		neither := formula.True()
		some := formula.False()
		for a := range n {
			fact, row := uint64(0), []uint64{}
			for w := range m.Worlds {
				fact |= uint64(w>>a&1) << w
				row = append(row, 1<<w|1<<(w^1<<a))
			}
			m.Val, m.Rel = append(m.Val, fact), append(m.Rel, row)
			neither = formula.And(neither, ignorant(a, formula.Fact(a)))
			some = formula.Or(some, formula.Fact(a))
		}
		father, _, _ := announce.Update(m, some)
		last, worlds, count, e := announce.Repeat(father, neither)
		if last.Worlds != 1 || !slices.Equal(worlds, []int{1<<n - 2}) || count != n-1 || e != api.OK {
			t.Error("children:", n, last, worlds, count, e)
		}
	}
}

// TestLongFormulas is P25.6: what is known may have as many nodes as a formula can have, and positions are those of the list.
func TestLongFormulas(t *testing.T) {
	f := []api.Node{{Op: api.OpFact}}
	for len(f) < 200 {
		f = append(f, api.Node{Op: api.OpOr, X: len(f) - 1})
	}
	if formula.Size(f) != 200 || formula.Know(0, f) != nil {
		t.Fatal(formula.Size(f))
	}
	m := api.Model{Worlds: 2, Val: []uint64{1}, Rel: [][]uint64{{3, 3}, {1, 2}}}
	p := formula.Fact(0)
	many := []int{}
	l := [][]api.Node{formula.Not(p), formula.False(), formula.True()}
	for i := 3; i < 500; i++ {
		l = append(l, f)
		many = append(many, i)
	}
	for _, announced := range [][]api.Node{p, f} {
		if learnt, lost, e := announce.Change(m, 0, announced, 0, l); !slices.Equal(learnt, many) || len(lost) != 0 || e != api.OK {
			t.Error("long formulas:", learnt, lost, e)
		}
		if learnt, lost, e := announce.Change(m, 0, announced, 1, l); len(learnt) != 0 || len(lost) != 0 || e != api.OK {
			t.Error("long formulas that were known:", learnt, lost, e)
		}
		for _, none := range [][][]api.Node{nil, {}} {
			if learnt, lost, e := announce.Change(m, 0, announced, 0, none); len(learnt) != 0 || len(lost) != 0 || e != api.OK {
				t.Error("no formulas:", learnt, lost, e)
			}
		}
		checkAll(t, m, announced, l[:5])
	}
	ignorance := [][]api.Node{ignorant(0, p), p, ignorant(0, p)}
	if learnt, lost, e := announce.Change(m, 0, p, 0, ignorance); !slices.Equal(learnt, []int{1}) || !slices.Equal(lost, []int{0, 2}) || e != api.OK {
		t.Error("known ignorance:", learnt, lost, e)
	}
}

// TestUnused is P25.1 to P25.6: nodes that the whole formula does not use do not count.
func TestUnused(t *testing.T) {
	p := formula.Fact(1)
	for _, unused := range [][]api.Node{
		{{Op: api.OpFact, I: 7}}, {{Op: api.OpFact}, {Op: api.OpKnow, I: 3}}, {{Op: api.OpTrue}, {Op: api.OpNext}}, {{Op: api.OpFact, I: 2}, {Op: api.OpEvery, G: 15}},
	} {
		f := append(slices.Clone(unused), p...)
		want, worlds, _ := announce.Update(hats(), p)
		if m, l, e := announce.Update(hats(), f); !model.Same(m, want) || !slices.Equal(l, worlds) || e != api.OK {
			t.Error("Update:", f, m, l, e)
		}
		if m, l, n, e := announce.Sequence(hats(), [][]api.Node{f, f}); !model.Same(m, want) || !slices.Equal(l, worlds) || n != 2 || e != api.OK {
			t.Error("Sequence:", f, m, l, n, e)
		}
		if m, l, n, e := announce.Repeat(hats(), f); !model.Same(m, want) || !slices.Equal(l, worlds) || n != 1 || e != api.OK {
			t.Error("Repeat:", f, m, l, n, e)
		}
		if m, e := announce.Whether(hats(), f); !model.Same(m, askedOf(hats(), p)) || e != api.OK {
			t.Error("Whether:", f, m, e)
		}
		if yes, e := announce.Successful(hats(), 3, f); !yes || e != api.OK {
			t.Error("Successful:", f, yes, e)
		}
		if learnt, lost, e := announce.Change(hats(), 3, f, 1, [][]api.Node{f}); !slices.Equal(learnt, []int{0}) || len(lost) != 0 || e != api.OK {
			t.Error("Change:", f, learnt, lost, e)
		}
	}
}

// outside returns numbers that are not from 0 to n - 1.
func outside(n int) []int {
	return []int{-1, n, n + 1, 64, math.MinInt, math.MaxInt}
}

// checkError checks that all functions return an error of a model or of the announced formula.
func checkError(t *testing.T, m api.Model, f []api.Node, want int) {
	t.Helper()
	if after, l, e := announce.Update(m, f); !isZero(after) || len(l) != 0 || e != want {
		t.Errorf("Update(%v, %v) is %v, %v, %d, not %d", m, f, after, l, e, want)
	}
	if after, l, n, e := announce.Repeat(m, f); !isZero(after) || len(l) != 0 || n != 0 || e != want {
		t.Errorf("Repeat(%v, %v) is %v, %v, %d, %d, not %d", m, f, after, l, n, e, want)
	}
	if after, e := announce.Whether(m, f); !isZero(after) || e != want {
		t.Errorf("Whether(%v, %v) is %v, %d, not %d", m, f, after, e, want)
	}
	for _, l := range [][][]api.Node{{f}, {f, f}, {f, formula.True()}, {f, nil}} {
		if after, worlds, n, e := announce.Sequence(m, l); !isZero(after) || len(worlds) != 0 || n != 0 || e != want {
			t.Errorf("Sequence(%v, %v) is %v, %v, %d, %d, not %d", m, l, after, worlds, n, e, want)
		}
	}
	for _, world := range []int{0, -1, 64} {
		if yes, e := announce.Successful(m, world, f); yes || e != want {
			t.Errorf("Successful(%v, %d, %v) is %t, %d, not %d", m, world, f, yes, e, want)
		}
		for _, agent := range []int{0, -1, 4} {
			for _, l := range [][][]api.Node{nil, {formula.True()}, {nil}} {
				if learnt, lost, e := announce.Change(m, world, f, agent, l); len(learnt) != 0 || len(lost) != 0 || e != want {
					t.Errorf("Change(%v, %d, %v, %d, %v) is %v, %v, %d, not %d", m, world, f, agent, l, learnt, lost, e, want)
				}
			}
		}
	}
}

// TestErrors is P25.1 to P25.6: the errors of the model, and behind them those of the announced formula.
func TestErrors(t *testing.T) {
	each(notValid(), func(m api.Model, e int) {
		for _, f := range [][]api.Node{formula.True(), formula.False(), formula.Fact(7), formula.Next(formula.True()), nil, {{Op: 22}}} {
			checkError(t, m, f, e)
		}
		if after, worlds, n, got := announce.Sequence(m, nil); !isZero(after) || len(worlds) != 0 || n != 0 || got != e {
			t.Errorf("Sequence(%v) of no formulas is %v, %v, %d, %d, not %d", m, after, worlds, n, got, e)
		}
	})
	each(notFitting(), func(f []api.Node, e int) { checkError(t, hats(), f, e) })
}

// TestErrorSequence is P25.2: the error of a later announcement, with the number of announcements before it.
func TestErrorSequence(t *testing.T) {
	p, q := formula.Fact(0), formula.Fact(1)
	check := func(l [][]api.Node, count, want int) {
		t.Helper()
		if after, worlds, n, e := announce.Sequence(hats(), l); !isZero(after) || len(worlds) != 0 || n != count || e != want {
			t.Errorf("Sequence of %v is %v, %v, %d, %d, not %d, %d", l, after, worlds, n, e, count, want)
		}
	}
	each(notFitting(), func(f []api.Node, e int) {
		check([][]api.Node{p, f}, 1, e)
		check([][]api.Node{p, q, p, f, formula.False()}, 3, e)
		check([][]api.Node{p, formula.Not(p), f}, 1, api.ErrFalse)
		check([][]api.Node{formula.False(), f}, 0, api.ErrFalse)
	})
	check([][]api.Node{p, formula.Not(p)}, 1, api.ErrFalse)
	check([][]api.Node{p, q, p, formula.Not(q), nil}, 3, api.ErrFalse)
}

// TestErrorWorld is P25.4 and P25.6: worlds that there are not, before formulas that are false; then agents, then the first formula with an error.
func TestErrorWorld(t *testing.T) {
	p, false0 := formula.Fact(0), formula.Not(formula.Fact(0))
	change := func(world int, f []api.Node, agent int, l [][]api.Node, want int) {
		t.Helper()
		if learnt, lost, e := announce.Change(hats(), world, f, agent, l); len(learnt) != 0 || len(lost) != 0 || e != want {
			t.Errorf("Change at %d of %v for %d with %v is %v, %v, %d, not %d", world, f, agent, l, learnt, lost, e, want)
		}
	}
	for _, f := range [][]api.Node{p, formula.False(), formula.True()} {
		for _, world := range outside(4) {
			if yes, e := announce.Successful(hats(), world, f); yes || e != api.ErrRange {
				t.Errorf("Successful at %d is %t, %d", world, yes, e)
			}
			for _, agent := range []int{0, 1, 2, -1} {
				change(world, f, agent, nil, api.ErrRange)
				change(world, f, agent, [][]api.Node{{{Op: 22}}}, api.ErrRange)
			}
		}
	}
	for _, agent := range outside(2) {
		change(1, false0, agent, nil, api.ErrFalse)
		change(1, false0, agent, [][]api.Node{nil}, api.ErrFalse)
		change(1, p, agent, nil, api.ErrRange)
		change(1, p, agent, [][]api.Node{p, nil}, api.ErrRange)
	}
	each(notFitting(), func(g []api.Node, e int) {
		for agent := range 2 {
			change(0, p, agent, [][]api.Node{g}, api.ErrFalse)
			change(3, p, agent, [][]api.Node{g}, e)
			change(3, p, agent, [][]api.Node{p, formula.True(), g}, e)
			change(3, p, agent, [][]api.Node{p, g, {{Op: 23}}, nil}, e)
			change(3, p, agent, [][]api.Node{formula.Next(p), g}, api.ErrOp)
			change(3, p, agent, [][]api.Node{nil, g}, api.ErrForm)
		}
	})
}
