package evidence_test

import (
	"math"
	"math/rand/v2"
	"slices"
	"testing"

	"witting/api"
	"witting/checker"
	"witting/evidence"
	"witting/formula"
)

// checkCode compares Check with the chapter's table, for a formula that is a canonical list.
func checkCode(t *testing.T, m api.Model, f []api.Node, e api.Evidence) int {
	t.Helper()
	code, want := evidence.Check(m, f, e), codeOf(m, f, e)
	if code != want {
		t.Fatalf("Check(%v, %v, %v) is %d, not %d", m, f, e, code, want)
	}
	return code
}

// atoms returns steps for the nodes without operands, at all worlds in turn.
func atoms(m api.Model, f []api.Node) []api.Reason {
	l := []api.Reason{}
	for i, n := range f {
		for w := range m.Worlds {
			if operands(n.Op) == 0 {
				l = append(l, api.Reason{World: w, Node: i, Holds: truth(m, f, i, w)})
			}
		}
	}
	return l
}

// overFacts returns canonical lists whose last node has this operator, over facts.
func overFacts(n api.Node) [][]api.Node {
	p, q := api.Node{Op: api.OpFact}, api.Node{Op: api.OpFact, I: 1}
	both := n
	both.Y = 1
	switch operands(n.Op) {
	case 0:
		return [][]api.Node{{n}}
	case 1:
		return [][]api.Node{{p, n}}
	}
	return [][]api.Node{{p, n}, {p, q, both}}
}

// lists returns all lists of at most so many numbers below n.
func lists(length, n int) [][]int {
	all, longest := [][]int{{}}, [][]int{{}}
	for range length {
		longer := [][]int{}
		for _, l := range longest {
			for i := range n {
				longer = append(longer, append(slices.Clone(l), i))
			}
		}
		all = append(all, longer...)
		longest = longer
	}
	return all
}

// TestRows is P18.1: all claims of each operator over facts, with all short lists of premises, in models of two worlds.
func TestRows(t *testing.T) {
	r := rand.New(rand.NewPCG(18, 2))
	count := map[[2]int]int{}
	for range 50 {
		m := random(r, 2, 2, 2)
		for _, n := range operators(2, 2) {
			for _, f := range overFacts(n) {
				known := atoms(m, f)
				for _, from := range lists(3, len(known)) {
					for bits := range 4 {
						last := api.Reason{World: bits & 1, Node: len(f) - 1, Holds: bits>>1 == 1, From: from}
						count[[2]int{n.Op, checkCode(t, m, f, api.Evidence{Steps: append(known, last)})}]++
					}
				}
			}
		}
	}
	for op := api.OpTrue; op <= api.OpCommon; op++ {
		if count[[2]int{op, api.OK}] < 50 || count[[2]int{op, api.ErrProof}] < 500 || count[[2]int{op, api.ErrForm}] > 0 {
			t.Errorf("operator %d: right %d times, wrong %d times", op, count[[2]int{op, api.OK}], count[[2]int{op, api.ErrProof}])
		}
	}
}

// premises returns the premises that the last row of the table asks for, of steps that atoms returned for two facts; it does not ask whether they are true.
func premises(m api.Model, group, world int, set uint64) []int {
	n := api.Node{G: group}
	from := []int{}
	for v := range m.Worlds {
		if has(set, v) {
			from = append(from, m.Worlds+v)
		}
	}
	for v := range m.Worlds {
		next := leads(m, n, world, v)
		for u := range m.Worlds {
			next = next || has(set, u) && leads(m, n, u, v)
		}
		if next && !has(set, v) {
			from = append(from, v)
		}
	}
	return from
}

// TestSets is P18.1: all sets that may show that common knowledge holds, with the right premises, and with wrong ones.
func TestSets(t *testing.T) {
	r := rand.New(rand.NewPCG(18, 3))
	right, more := 0, 0
	for range 300 {
		m := random(r, 1+r.IntN(5), 2, 2)
		f := formula.Common(1+r.IntN(3), formula.Fact(0), formula.Fact(1))
		known := atoms(m, f)
		w := r.IntN(m.Worlds)
		found := 0
		for set := range uint64(1) << m.Worlds {
			from := premises(m, f[2].G, w, set)
			last := api.Reason{World: w, Node: 2, Holds: true, From: from, Set: set}
			if checkCode(t, m, f, api.Evidence{Steps: append(known, last)}) == api.OK {
				found++
			}
			last.From = append(slices.Clone(from), r.IntN(len(known)))
			checkCode(t, m, f, api.Evidence{Steps: append(known, last)})
			if len(from) > 0 {
				last.From = slices.Delete(slices.Clone(from), len(from)-1, len(from))
				checkCode(t, m, f, api.Evidence{Steps: append(known, last)})
				last.From = slices.Delete(slices.Clone(from), 0, 1)
				checkCode(t, m, f, api.Evidence{Steps: append(known, last)})
				last.From = append(slices.Clone(from[1:]), from[0])
				checkCode(t, m, f, api.Evidence{Steps: append(known, last)})
			}
		}
		if found > 0 {
			right++
		}
		if found > 1 {
			more++
		}
		if holds, _ := checker.At(m, w, f); holds != (found > 0) {
			t.Fatalf("%v at %d of %v: %d sets", f, w, m, found)
		}
	}
	if right < 60 || more < 30 || right > 270 {
		t.Error("models with a right set, with several:", right, more)
	}
}

// TestPaths is P18.1: paths that show that common knowledge does not hold, also long ones and ones that meet a world twice.
func TestPaths(t *testing.T) {
	r := rand.New(rand.NewPCG(18, 4))
	right, twice := 0, 0
	for range 3000 {
		m := random(r, 1+r.IntN(5), 2, 2)
		f := formula.Common(1+r.IntN(3), formula.Fact(0), formula.Fact(1))
		known := atoms(m, f)
		w := r.IntN(m.Worlds)
		from, at := []int{}, w
		for range 1 + r.IntN(8) {
			next := []int{}
			for v := range m.Worlds {
				if leads(m, f[2], at, v) && (has(m.Val[0], v) || r.IntN(20) == 0) {
					next = append(next, v)
				}
			}
			if len(next) > 0 && r.IntN(30) > 0 {
				at = next[r.IntN(len(next))]
			} else {
				at = r.IntN(m.Worlds)
			}
			from = append(from, at)
		}
		last := api.Reason{World: w, Node: 2, From: append(from, m.Worlds+at)}
		if checkCode(t, m, f, api.Evidence{Steps: append(known, last)}) == api.OK {
			right++
			if slices.Sort(from); len(slices.Compact(from)) < len(last.From)-1 {
				twice++
			}
		}
	}
	if right < 300 || twice < 100 {
		t.Error("right paths, with a world that they meet twice:", right, twice)
	}
}

// TestForm is P18.1: steps that are malformed, before steps that do not follow.
func TestForm(t *testing.T) {
	m := api.Model{Worlds: 2, Val: []uint64{1}, Rel: [][]uint64{{3, 3}}}
	f := formula.Common(1, formula.True(), formula.Or(formula.Fact(0), formula.Not(formula.Fact(0))))
	e, holds, code := evidence.Explain(m, 0, f)
	if !holds || code != api.OK || evidence.Check(m, f, e) != api.OK {
		t.Fatal("Explain:", e, holds, code)
	}
	last := len(e.Steps) - 1
	for i, change := range []func(r *api.Reason){
		func(r *api.Reason) { r.World = -1 }, func(r *api.Reason) { r.World = 2 }, func(r *api.Reason) { r.World = 64 },
		func(r *api.Reason) { r.World = math.MinInt }, func(r *api.Reason) { r.World = math.MaxInt },
		func(r *api.Reason) { r.Node = -1 }, func(r *api.Reason) { r.Node = len(f) }, func(r *api.Reason) { r.Node = math.MinInt }, func(r *api.Reason) { r.Node = math.MaxInt },
		func(r *api.Reason) { r.From = []int{-1} }, func(r *api.Reason) { r.From = append(r.From, math.MinInt) }, func(r *api.Reason) { r.From = append(r.From, math.MaxInt) },
		func(r *api.Reason) { r.Set |= 4 }, func(r *api.Reason) { r.Set = full }, func(r *api.Reason) { r.Set = 1 << 63 },
	} {
		for step := range e.Steps {
			c := cloned(e)
			change(&c.Steps[step])
			if code := evidence.Check(m, f, c); code != api.ErrForm {
				t.Errorf("change %d of the step %d: %d", i, step, code)
			}
			// The form counts before all proofs.
			c.Steps[0].Holds = !c.Steps[0].Holds
			if code := evidence.Check(m, f, c); code != api.ErrForm {
				t.Errorf("change %d of the step %d behind a wrong one: %d", i, step, code)
			}
		}
	}
	for step := range e.Steps {
		for _, from := range []int{step, step + 1, last, last + 1, len(e.Steps) + 1} {
			c := cloned(e)
			c.Steps[step].From = append(c.Steps[step].From, from)
			want := api.ErrForm
			if from < step {
				want = api.ErrProof
			}
			if code := evidence.Check(m, f, c); code != want {
				t.Errorf("premise %d of the step %d: %d", from, step, code)
			}
		}
		for _, holds := range []bool{false, true} {
			c := cloned(e)
			c.Steps[step].Set, c.Steps[step].Holds = 1, holds
			want := api.ErrForm
			if step == last && holds {
				want = api.ErrProof
			}
			if code := evidence.Check(m, f, c); code != want {
				t.Errorf("a set of the step %d that claims %t: %d", step, holds, code)
			}
		}
	}
	for _, none := range []api.Evidence{{}, {Steps: []api.Reason{}}} {
		if code := evidence.Check(m, f, none); code != api.ErrForm {
			t.Error("no steps:", code)
		}
	}
}

// cloned returns a copy of evidence.
func cloned(e api.Evidence) api.Evidence {
	c := api.Evidence{}
	for _, r := range e.Steps {
		r.From = slices.Clone(r.From)
		c.Steps = append(c.Steps, r)
	}
	return c
}

// changed returns evidence with a change in one or two fields.
func changed(r *rand.Rand, e api.Evidence, worlds, nodes int) api.Evidence {
	c := cloned(e)
	for range 1 + r.IntN(2) {
		i := r.IntN(len(c.Steps))
		s := &c.Steps[i]
		switch r.IntN(9) {
		case 0:
			s.World = r.IntN(worlds)
		case 1:
			s.Node = r.IntN(nodes)
		case 2:
			s.Holds = !s.Holds
		case 3:
			s.Set ^= 1 << r.IntN(worlds)
		case 4:
			if len(s.From) > 0 && i > 0 {
				s.From[r.IntN(len(s.From))] = r.IntN(i)
			}
		case 5:
			if i > 0 {
				s.From = append(s.From, r.IntN(i))
			}
		case 6:
			if len(s.From) > 0 {
				s.From = s.From[:len(s.From)-1]
			}
		case 7:
			c.Steps = c.Steps[:i+1]
		case 8:
			// The last step may be about anything that has evidence.
			c.Steps = append(c.Steps, api.Reason{World: s.World, Node: s.Node, Holds: s.Holds, From: slices.Clone(s.From), Set: s.Set})
		}
	}
	return c
}

// TestChanged is P18.1 and P18.5: evidence with changes; what Check accepts is true.
func TestChanged(t *testing.T) {
	r := rand.New(rand.NewPCG(18, 5))
	count := map[int]int{}
	for range 3000 {
		m := random(r, 1+r.IntN(5), 2, 2)
		f := formula.Compact(formulas(r, 1, 2, 2)[0])
		e, _, code := evidence.Explain(m, r.IntN(m.Worlds), f)
		if code != api.OK {
			t.Fatal(code)
		}
		sets, _ := checker.Sets(m, f)
		for range 5 {
			c := changed(r, e, m.Worlds, len(f))
			code := checkCode(t, m, f, c)
			count[code]++
			for _, s := range c.Steps {
				if code == api.OK && has(sets[s.Node], s.World) != s.Holds {
					t.Fatalf("%v is false in %v", s, m)
				}
			}
		}
	}
	if count[api.OK] < 1000 || count[api.ErrProof] < 1000 || count[api.ErrForm] < 1000 {
		t.Error(count)
	}
}

// TestFreeEvidence is P18.1: steps that come twice, or that nothing needs, are no errors, and the last step may claim anything.
func TestFreeEvidence(t *testing.T) {
	m := api.Model{Worlds: 2, Val: []uint64{1}, Rel: [][]uint64{{3, 3}}}
	f := formula.Know(0, formula.Fact(0))
	p0, p1 := api.Reason{Holds: true}, api.Reason{World: 1}
	for i, steps := range [][]api.Reason{
		{p0}, {p1}, {p0, p0}, {p1, p0, p1},
		{p0, p1, {Node: 1, From: []int{1}}, {World: 1, Node: 1, From: []int{1}}, p0},
		{p1, p1, {Node: 1, From: []int{1}}, {Node: 1, From: []int{0}}},
	} {
		if code := evidence.Check(m, f, api.Evidence{Steps: steps}); code != api.OK {
			t.Errorf("case %d: %d", i, code)
		}
	}
	// An operand may be one step that counts twice.
	and := formula.And(formula.Fact(0), formula.Fact(0))
	if code := evidence.Check(m, and, api.Evidence{Steps: []api.Reason{p0, {Node: 1, Holds: true, From: []int{0, 0}}}}); code != api.OK {
		t.Error("p & p:", code)
	}
}

// TestNodes is P18.1: the nodes of evidence are those of the canonical list.
func TestNodes(t *testing.T) {
	m := api.Model{Worlds: 2, Val: []uint64{1}, Rel: [][]uint64{{3, 3}}}
	f := []api.Node{{Op: api.OpTrue}, {Op: api.OpUntil}, {Op: api.OpFact}, {Op: api.OpFact, I: 7}, {Op: api.OpFact}, {Op: api.OpOr, X: 2, Y: 4}}
	right := []api.Reason{{Holds: true}, {Node: 1, Holds: true, From: []int{0}}}
	if code := evidence.Check(m, f, api.Evidence{Steps: right}); code != api.OK {
		t.Error("Check:", code)
	}
	for node := 2; node < 7; node++ {
		if code := evidence.Check(m, f, api.Evidence{Steps: append(right, api.Reason{Node: node, Holds: true})}); code != api.ErrForm {
			t.Errorf("node %d: %d", node, code)
		}
	}
	e, holds, code := evidence.Explain(m, 0, f)
	if !holds || code != api.OK || len(e.Steps) != 2 || codeOf(m, formula.Compact(f), e) != api.OK {
		t.Error("Explain:", e, holds, code)
	}
}
