package evidence_test

import (
	"math"
	"math/rand/v2"
	"slices"
	"strings"
	"testing"

	"witting/api"
	"witting/checker"
	"witting/evidence"
	"witting/formula"
	"witting/model"
	"witting/parser"
	"witting/printer"
	"witting/signature"
)

// read returns the formula of a text.
func read(t *testing.T, s api.Signature, text string) []api.Node {
	t.Helper()
	f, _, e := parser.Parse(s, text)
	if e != api.OK {
		t.Fatal(text, e)
	}
	return f
}

// same reports whether evidence has these steps.
func same(e api.Evidence, steps []api.Reason) bool {
	return slices.EqualFunc(e.Steps, steps, func(a, b api.Reason) bool {
		return a.World == b.World && a.Node == b.Node && a.Holds == b.Holds && slices.Equal(a.From, b.From) && a.Set == b.Set
	})
}

// TestExamples contains the chapter's examples. The first two formulas have only one evidence with the properties of P18.2.
func TestExamples(t *testing.T) {
	m := api.Model{Worlds: 2, Val: []uint64{1}, Rel: [][]uint64{{3, 3}}}
	s, _ := signature.Default(1, 1, 0)
	know, poss, common := read(t, s, "K[a]p"), read(t, s, "M[a]p"), read(t, s, "C[a](p | ~p)")
	e, holds, code := evidence.Explain(m, 0, know)
	if holds || code != api.OK || !same(e, []api.Reason{{World: 1}, {Node: 1, From: []int{0}}}) {
		t.Error("K[a]p:", e, holds, code)
	}
	text, code := evidence.Text(s, m, know, e)
	if code != api.OK || text != "0: world 1: p fails\n1: world 0: K[a]p fails by 0\n" {
		t.Error("K[a]p:", text, code)
	}
	e.Steps[0] = api.Reason{Holds: true}
	if code := evidence.Check(m, know, e); code != api.ErrProof {
		t.Error("K[a]p with a wrong step:", code)
	}
	e, holds, code = evidence.Explain(m, 1, poss)
	if !holds || code != api.OK || !same(e, []api.Reason{{Holds: true}, {World: 1, Node: 1, Holds: true, From: []int{0}}}) {
		t.Error("M[a]p:", e, holds, code)
	}
	e, holds, code = evidence.Explain(m, 0, common)
	last := e.Steps[len(e.Steps)-1]
	if !holds || code != api.OK || last.Set != 3 || len(last.From) != 2 || evidence.Check(m, common, e) != api.OK {
		t.Error("C[a](p | ~p):", e, holds, code)
	}
	e.Steps[0].Holds = !e.Steps[0].Holds
	if code := evidence.Check(m, common, e); code != api.ErrProof {
		t.Error("C[a](p | ~p) with a wrong step:", code)
	}
}

// checkExplain checks P18.2 for a formula that fits a model.
func checkExplain(t *testing.T, m api.Model, world int, f []api.Node) {
	t.Helper()
	c := formula.Compact(f)
	e, holds, code := evidence.Explain(m, world, f)
	want, _ := checker.At(m, world, f)
	if code != api.OK || holds != want {
		t.Fatalf("Explain(%v, %d, %v) is %t, %d", m, world, f, holds, code)
	}
	if evidence.Check(m, f, e) != api.OK || codeOf(m, c, e) != api.OK {
		t.Fatalf("Explain(%v, %d, %v) is %v, which is wrong", m, world, f, e)
	}
	last := e.Steps[len(e.Steps)-1]
	if last.World != world || last.Node != len(c)-1 || last.Holds != holds {
		t.Fatalf("Explain(%v, %d, %v) is about %v", m, world, f, last)
	}
	seen, used := map[[2]int]bool{}, map[int]bool{len(e.Steps) - 1: true}
	for _, r := range e.Steps {
		for _, from := range r.From {
			used[from] = true
		}
		place := [2]int{r.World, r.Node}
		if seen[place] {
			t.Fatalf("Explain(%v, %d, %v) has two steps for %v", m, world, f, place)
		}
		seen[place] = true
	}
	if len(used) != len(e.Steps) {
		t.Fatalf("Explain(%v, %d, %v) is %v, with steps that nothing needs", m, world, f, e)
	}
}

// TestExplainSmall is P18.2 and P18.5: all formulas of up to three nodes in all models of up to two worlds, with a fact and an agent.
func TestExplainSmall(t *testing.T) {
	all := allFormulas(3)
	for i, m := range slices.Concat(small(1), small(2)) {
		for j, f := range all {
			// A part of the pairs is enough for the larger models.
			if m.Worlds == 1 || (i+j)%4 == 0 {
				for w := range m.Worlds {
					checkExplain(t, m, w, f)
				}
			}
		}
	}
}

// TestExplainRandom is P18.2 and P18.5: random formulas in models of all sizes.
func TestExplainRandom(t *testing.T) {
	r := rand.New(rand.NewPCG(18, 6))
	for _, m := range samples() {
		for _, f := range formulas(r, 6, len(m.Rel), len(m.Val)) {
			checkExplain(t, m, r.IntN(m.Worlds), f)
			checkExplain(t, m, m.Worlds-1, f)
		}
	}
}

// TestExplainCommon is P18.2: long paths, and sets that they do not leave.
func TestExplainCommon(t *testing.T) {
	p, q := formula.Fact(0), formula.Fact(1)
	for _, m := range []api.Model{chain(64, 1), chain(64, 4), chain(63, 2), chain(2, 2)} {
		group := 1<<len(m.Rel) - 1
		for _, f := range [][]api.Node{formula.Common(group, formula.True(), q), formula.Common(group, q, q), formula.Common(group, q, p), formula.Common(group, p, q), formula.Common(group, p, p)} {
			for w := range m.Worlds {
				checkExplain(t, m, w, f)
			}
		}
	}
	e, holds, _ := evidence.Explain(chain(64, 1), 0, formula.Common(1, formula.True(), q))
	if last := e.Steps[len(e.Steps)-1]; holds || len(last.From) != 64 || last.Set != 0 {
		t.Error("a path of 63 steps:", last)
	}
}

// TestDeep is P18.2: formulas of the greatest size, whose trees are very large.
func TestDeep(t *testing.T) {
	r := rand.New(rand.NewPCG(18, 7))
	for range 5 {
		m := random(r, 20, 2, 4)
		f := []api.Node{{Op: api.OpFact}}
		for len(f) < 200 {
			n := operators(4, 0)[2+r.IntN(50)%(len(operators(4, 0))-2)]
			n.X = len(f) - 1
			if operands(n.Op) == 2 {
				n.Y = max(len(f)-1-r.IntN(2), 0)
			}
			f = append(f, n)
		}
		checkExplain(t, m, 0, f)
		checkExplain(t, m, 19, f)
	}
}

// TestExplainErrors is P18.2: a world that there is not, after all other errors.
func TestExplainErrors(t *testing.T) {
	for _, m := range []api.Model{{Worlds: 1, Val: []uint64{1}}, {Worlds: 64, Val: []uint64{full}}, random(rand.New(rand.NewPCG(18, 8)), 5, 1, 1)} {
		for _, w := range []int{math.MinInt, -1, m.Worlds, m.Worlds + 1, 64, math.MaxInt} {
			if e, holds, code := evidence.Explain(m, w, formula.Fact(0)); len(e.Steps) != 0 || holds || code != api.ErrRange {
				t.Errorf("world %d of %d: %v, %t, %d", w, m.Worlds, e, holds, code)
			}
			if e, holds, code := evidence.Explain(m, w, formula.Next(formula.Fact(1))); len(e.Steps) != 0 || holds || code != api.ErrOp {
				t.Errorf("world %d of %d: %v, %t, %d", w, m.Worlds, e, holds, code)
			}
		}
	}
}

// checkError checks that all functions return an error of checker.Sets.
func checkError(t *testing.T, m api.Model, f []api.Node) {
	t.Helper()
	_, want := checker.Sets(m, f)
	if want == api.OK {
		t.Fatalf("no error: %v, %v", m, f)
	}
	s, _ := signature.Default(4, 8, 8)
	for _, e := range []api.Evidence{{}, {Steps: []api.Reason{{Holds: true}}}, {Steps: []api.Reason{{World: -1, From: []int{3}, Set: full}}}} {
		if code := evidence.Check(m, f, e); code != want {
			t.Errorf("Check(%v, %v, %v) is %d, not %d", m, f, e, code, want)
		}
		if text, code := evidence.Text(s, m, f, e); text != "" || code != want {
			t.Errorf("Text(%v, %v, %v) is %q, %d, not %d", m, f, e, text, code, want)
		}
	}
	for _, w := range []int{0, -1, 64} {
		if e, holds, code := evidence.Explain(m, w, f); len(e.Steps) != 0 || holds || code != want {
			t.Errorf("Explain(%v, %d, %v) is %v, %t, %d, not %d", m, w, f, e, holds, code, want)
		}
	}
}

// TestErrors is P18.1, P18.2 and P18.3: the errors of checker.Sets.
func TestErrors(t *testing.T) {
	next := formula.Next(formula.Fact(1))
	eachError(notValid(), func(m api.Model, e int) {
		checkError(t, m, formula.Fact(0))
		checkError(t, m, next)
		checkError(t, m, nil)
	})
	eachError(noFormulas(), func(f []api.Node, e int) { checkError(t, example(), f) })
	for op := api.OpBelief; op <= api.OpSince; op++ {
		checkError(t, example(), []api.Node{{Op: api.OpFact}, {Op: op}})
		checkError(t, example(), []api.Node{{Op: api.OpFact, I: 1}, {Op: op}, {Op: api.OpKnow, X: 1}})
	}
	for _, f := range [][]api.Node{formula.Fact(1), formula.Know(2, formula.True()), formula.Dist(7, formula.True()), formula.Every(4, formula.Fact(0)), formula.Common(9, formula.True(), formula.True())} {
		checkError(t, example(), f)
	}
}

// TestText is P18.3: the texts of evidence for random formulas.
func TestText(t *testing.T) {
	r := rand.New(rand.NewPCG(18, 9))
	for _, m := range samples() {
		s, e := signature.Default(len(m.Rel), len(m.Val), r.IntN(3))
		if e != api.OK {
			t.Fatal(e)
		}
		for _, f := range formulas(r, 4, len(m.Rel), len(m.Val)) {
			proof, _, _ := evidence.Explain(m, r.IntN(m.Worlds), f)
			texts := []string{}
			for _, sub := range formula.Subs(f) {
				text, e := printer.Print(s, sub)
				if e != api.OK {
					t.Fatal(e)
				}
				texts = append(texts, text)
			}
			if text, e := evidence.Text(s, m, f, proof); text != textOf(proof, texts) || e != api.OK {
				t.Fatalf("Text(%v, %v, %v) is %q, %d", m, f, proof, text, e)
			}
		}
	}
}

// TestTextNames is P18.3: names of agents and facts, numbers of two digits, and several premises.
func TestTextNames(t *testing.T) {
	s := api.Signature{Agents: []string{"anna", "bob"}, Facts: []string{"red", "late1"}}
	m := chain(12, 2)
	f := read(t, s, "C[anna,bob | late1]late1 & ~red")
	proof := api.Evidence{Steps: []api.Reason{
		{World: 10, Node: 0, Holds: true}, {World: 11, Node: 0}, {World: 10, Node: 1, Holds: true, From: []int{0}, Set: 1 << 10},
		{World: 10, Node: 2}, {World: 10, Node: 3, Holds: true, From: []int{3}}, {World: 10, Node: 4, Holds: true, From: []int{2, 4}},
	}}
	if text, e := evidence.Text(s, m, f, proof); text != "" || e != api.ErrProof {
		t.Error(text, e)
	}
	proof.Steps[2] = api.Reason{World: 10, Node: 1, Holds: true, From: []int{1}}
	want := "0: world 10: late1 holds\n1: world 11: late1 fails\n2: world 10: C[anna,bob|late1]late1 holds by 1\n" +
		"3: world 10: red fails\n4: world 10: ~red holds by 3\n5: world 10: C[anna,bob|late1]late1 & ~red holds by 2 4\n"
	if text, e := evidence.Text(s, m, f, proof); text != want || e != api.OK {
		t.Error(text, e)
	}
}

// doubled returns a formula of so many nodes whose text is very long.
func doubled(size int) []api.Node {
	f := formula.Fact(0)
	for len(f) < size {
		f = formula.And(f, f)
	}
	return f
}

// TestTextErrors is P18.3: the errors in their order.
func TestTextErrors(t *testing.T) {
	m := api.Model{Worlds: 2, Val: []uint64{1}, Rel: [][]uint64{{3, 3}}}
	f := formula.Know(0, formula.Fact(0))
	right, _, _ := evidence.Explain(m, 0, f)
	wrong := api.Evidence{Steps: []api.Reason{{World: 1, Holds: true}}}
	good, _ := signature.Default(1, 1, 0)
	bad := api.Signature{Agents: []string{"a", "a"}, Facts: []string{"p"}}
	many, _ := signature.Default(1, 1, 8)
	signatures := []api.Signature{}
	for _, n := range [][2]int{{0, 1}, {2, 1}, {1, 0}, {1, 2}, {0, 0}, {4, 8}} {
		s, _ := signature.Default(n[0], n[1], 1)
		signatures = append(signatures, s)
	}
	check := func(s api.Signature, m api.Model, f []api.Node, e api.Evidence, want int) {
		t.Helper()
		if text, code := evidence.Text(s, m, f, e); code != want || (text == "") != (want != api.OK) {
			t.Errorf("Text(%v, %v, %v, %v) is %q, %d, not %d", s, m, f, e, text, code, want)
		}
	}
	check(bad, m, f, right, signature.Check(bad))
	check(bad, api.Model{}, nil, wrong, signature.Check(bad))
	for _, s := range signatures {
		check(s, m, f, right, api.ErrArg)
		check(s, m, f, wrong, api.ErrProof)
		check(s, m, f, api.Evidence{}, api.ErrForm)
		check(s, api.Model{}, f, right, api.ErrRange)
		check(s, m, nil, right, api.ErrForm)
		check(s, m, formula.Next(f), right, api.ErrOp)
		check(s, m, formula.Fact(1), right, api.ErrRange)
	}
	check(good, m, f, right, api.OK)
	check(many, m, f, right, api.OK)
	long := doubled(12)
	e, _, _ := evidence.Explain(m, 0, long)
	check(good, m, long, e, api.ErrLimit)
	check(signatures[0], m, long, e, api.ErrArg)
	// Only formulas of steps are printed.
	part := api.Evidence{Steps: e.Steps[:len(e.Steps)-3]}
	check(good, m, long, part, api.OK)
	check(good, m, long, api.Evidence{Steps: append(slices.Clone(e.Steps), part.Steps[0])}, api.ErrLimit)
}

// TestTextLimit is P18.3: the limit counts for the text of each formula, not for the whole text.
func TestTextLimit(t *testing.T) {
	m := api.Model{Worlds: 1, Val: []uint64{1}}
	s := api.Signature{Facts: []string{"p"}}
	f := formula.Fact(0)
	for range 199 {
		f = formula.Not(f)
	}
	e, _, _ := evidence.Explain(m, 0, f)
	text, code := evidence.Text(s, m, f, e)
	if code != api.OK || len(text) < 5*api.MaxText || strings.Count(text, "\n") != 200 || !strings.Contains(text, "\n199: world 0: "+strings.Repeat("~", 199)+"p fails by 198\n") {
		t.Error(len(text), code)
	}
}

// TestAllClaims is P18.5: exactly one of the claims about a formula at a world has evidence.
func TestAllClaims(t *testing.T) {
	r := rand.New(rand.NewPCG(18, 10))
	for _, m := range samples() {
		for _, f := range formulas(r, 2, len(m.Rel), len(m.Val)) {
			w := r.IntN(m.Worlds)
			yes, a, _ := evidence.Explain(m, w, f)
			no, b, _ := evidence.Explain(m, w, formula.Not(f))
			if a == b || evidence.Check(m, f, yes) != api.OK || evidence.Check(m, formula.Not(f), no) != api.OK {
				t.Fatalf("%v at %d of %v: %v, %v", f, w, m, yes, no)
			}
			last := &yes.Steps[len(yes.Steps)-1]
			last.Holds = !last.Holds
			if code := evidence.Check(m, f, yes); code == api.OK {
				t.Fatalf("%v at %d of %v: %v", f, w, m, yes)
			}
		}
	}
}

// mark stands in the spare capacity of arguments.
const mark = 77

// spare returns a copy of a model whose lists have spare capacity with marks.
func spare(m api.Model) api.Model {
	c := api.Model{Worlds: m.Worlds, Val: append(slices.Clone(m.Val), mark)[:len(m.Val)]}
	for _, r := range m.Rel {
		c.Rel = append(c.Rel, append(slices.Clone(r), mark)[:len(r)])
	}
	c.Rel = append(c.Rel, []uint64{mark})[:len(c.Rel)]
	return c
}

// isKept reports whether a model that spare returned is still m, with its marks.
func isKept(c, m api.Model) bool {
	marks := c.Val[:len(c.Val)+1][len(c.Val)] == mark && slices.Equal(c.Rel[:len(c.Rel)+1][len(c.Rel)], []uint64{mark})
	for _, r := range c.Rel {
		marks = marks && r[:len(r)+1][len(r)] == mark
	}
	return marks && model.Same(c, m)
}

// spareSteps returns a copy of evidence whose lists have spare capacity with marks.
func spareSteps(e api.Evidence) api.Evidence {
	c := api.Evidence{}
	for _, r := range e.Steps {
		r.From = append(slices.Clone(r.From), mark)[:len(r.From)]
		c.Steps = append(c.Steps, r)
	}
	c.Steps = append(c.Steps, api.Reason{Node: mark})[:len(c.Steps)]
	return c
}

// areKept reports whether evidence that spareSteps returned is still e, with its marks.
func areKept(c, e api.Evidence) bool {
	marks := c.Steps[:len(c.Steps)+1][len(c.Steps)].Node == mark
	for _, r := range c.Steps {
		marks = marks && r.From[:len(r.From)+1][len(r.From)] == mark
	}
	return marks && same(c, e.Steps)
}

// TestMemory is P18.4: arguments stay as they are, with their spare capacity, and results share nothing with them or with each other.
func TestMemory(t *testing.T) {
	r := rand.New(rand.NewPCG(18, 11))
	for _, m := range samples() {
		for _, f := range formulas(r, 2, len(m.Rel), len(m.Val)) {
			s, _ := signature.Default(len(m.Rel), len(m.Val), 0)
			a, g := spare(m), append(slices.Clone(f), api.Node{Op: mark})[:len(f)]
			first, _, _ := evidence.Explain(a, 0, g)
			second, _, _ := evidence.Explain(a, 0, g)
			want := cloned(second)
			c := spareSteps(want)
			evidence.Check(a, g, c)
			evidence.Text(s, a, g, c)
			overwrite(t, first, want)
			if !same(second, want.Steps) {
				t.Errorf("Explain(%v, 0, %v) has changed: %v", m, f, second)
			}
			if !isKept(a, m) || !slices.Equal(g, f) || g[:len(g)+1][len(g)].Op != mark || !areKept(c, want) {
				t.Errorf("an argument has changed: %v, %v, %v", a, g, c)
			}
		}
	}
}

// overwrite overwrites the lists of evidence one after the other, each of which is still as it was.
func overwrite(t *testing.T, e, want api.Evidence) {
	t.Helper()
	for i, r := range e.Steps {
		if !slices.Equal(r.From, want.Steps[i].From) {
			t.Errorf("the premises of the step %d are %v", i, r.From)
		}
		l := r.From[:cap(r.From)]
		for j := range l {
			l[j] = 99
		}
	}
	l := e.Steps[:cap(e.Steps)]
	for i := range l {
		l[i] = api.Reason{World: 99}
	}
}
