package printer

import (
	"math/rand/v2"
	"slices"
	"strings"
	"testing"

	"witting/api"
	"witting/formula"
	"witting/parser"
	"witting/signature"
)

// signatureOf returns a signature with the usual names.
func signatureOf(agents, facts, actions int) (api.Signature, int) {
	return signature.Default(agents, facts, actions)
}

// names returns the signature of the chapter's examples.
func names() api.Signature {
	return api.Signature{Agents: []string{"a", "b"}, Facts: []string{"p", "q", "r"}, Actions: []string{"tell"}}
}

// checkText compares the text of a formula.
func checkText(t *testing.T, s api.Signature, f []api.Node, want string) {
	t.Helper()
	if text, e := Print(s, f); text != want || e != api.OK {
		t.Errorf("Print(%v) is %q, %d, not %q", f, text, e, want)
	}
}

// checkError compares the error of a formula.
func checkError(t *testing.T, s api.Signature, f []api.Node, want int) {
	t.Helper()
	if text, e := Print(s, f); text != "" || e != want {
		t.Errorf("Print(%v, %.20v) is %.40q, %d, not %d", s, f, text, e, want)
	}
}

// read returns the formula of a text.
func read(t *testing.T, s api.Signature, text string) []api.Node {
	t.Helper()
	f, _, e := parser.Parse(s, text)
	if e != api.OK {
		t.Fatalf("Parse(%q): %d", text, e)
	}
	return f
}

// TestExamples are the chapter's examples, and the first one of the whole system.
func TestExamples(t *testing.T) {
	for text, want := range map[string]string{
		"((p & q) & (r))": "p & q & r", "p & (q & r)": "p & (q & r)", "(p -> q) -> (q -> r)": "(p -> q) -> q -> r", "~(K[a](p | q))": "~K[a](p | q)",
		"C[a,b|p & q]r": "C[a,b|p & q]r", "C[a|true]p": "C[a]p", "[!p](q <-> r)": "[!p](q <-> r)", "next (p until q)": "next (p until q)", "[tell.1]~p": "[tell.1]~p",
		"p & q -> K[a]p": "p & q -> K[a]p",
	} {
		checkText(t, names(), read(t, names(), text), want)
	}
}

// TestTexts is P7.2: each row of the table, the order of agents, conditions that are true, and where parentheses stand.
func TestTexts(t *testing.T) {
	p, q, r, yes, no := formula.Fact(0), formula.Fact(1), formula.Fact(2), formula.True(), formula.False()
	for want, f := range map[string][]api.Node{
		"true": yes, "false": no, "p": p, "w": formula.Fact(7), "~p": formula.Not(p), "~~p": formula.Not(formula.Not(p)),
		"K[a]p": formula.Know(0, p), "M[b]p": formula.Poss(1, p), "S[d]p": formula.Safe(3, p), "K[a]M[b]p": formula.Know(0, formula.Poss(1, p)),
		"E[a]p": formula.Every(1, p), "E[b,d]p": formula.Every(10, p), "D[a,b,c,d]p": formula.Dist(15, p), "D[c]~p": formula.Dist(4, formula.Not(p)),
		"C[a,c]p": formula.Common(5, yes, p), "C[b|q]p": formula.Common(2, q, p), "C[a|false]true": formula.Common(1, no, yes), "C[d|~true]p": formula.Common(8, formula.Not(yes), p),
		"B[c]p": formula.Belief(2, yes, p), "B[d|q]p": formula.Belief(3, q, p), "B[a|true & true]p": formula.Belief(0, formula.And(yes, yes), p), "B[b]true": formula.Belief(1, yes, yes),
		"[!p]q": formula.Announce(p, q), "[!true]p": formula.Announce(yes, p), "[![!p]q]r": formula.Announce(formula.Announce(p, q), r),
		"[act0.0]p": formula.Act(0, 0, p), "[act7.6]p": formula.Act(7, 6, p), "next p": formula.Next(p), "prev next ~p": formula.Prev(formula.Next(formula.Not(p))),
		"p & q": formula.And(p, q), "p | q": formula.Or(p, q), "p until q": formula.Until(p, q), "p since q": formula.Since(p, q), "p -> q": formula.Imp(p, q), "p <-> q": formula.Iff(p, q),
		"p & q & r": formula.And(formula.And(p, q), r), "p & (q & r)": formula.And(p, formula.And(q, r)), "p | q | r": formula.Or(formula.Or(p, q), r), "p | (q | r)": formula.Or(p, formula.Or(q, r)),
		"p <-> q <-> r": formula.Iff(formula.Iff(p, q), r), "p <-> (q <-> r)": formula.Iff(p, formula.Iff(q, r)), "p -> q -> r": formula.Imp(p, formula.Imp(q, r)), "(p -> q) -> r": formula.Imp(formula.Imp(p, q), r),
		"p until q since r": formula.Until(p, formula.Since(q, r)), "(p until q) since r": formula.Since(formula.Until(p, q), r), "(p since q) until r": formula.Until(formula.Since(p, q), r),
		"p & q | r": formula.Or(formula.And(p, q), r), "p & (q | r)": formula.And(p, formula.Or(q, r)), "p | q until q & r": formula.Until(formula.Or(p, q), formula.And(q, r)),
		"p until q -> r": formula.Imp(formula.Until(p, q), r), "p until (q -> r)": formula.Until(p, formula.Imp(q, r)), "p -> q <-> r -> p": formula.Iff(formula.Imp(p, q), formula.Imp(r, p)), "p -> (q <-> r)": formula.Imp(p, formula.Iff(q, r)),
		"~(p & q)": formula.Not(formula.And(p, q)), "~p & q": formula.And(formula.Not(p), q), "K[a](p -> q) -> q": formula.Imp(formula.Know(0, formula.Imp(p, q)), q),
		"C[a|p <-> q](p <-> q)": formula.Common(1, formula.Iff(p, q), formula.Iff(p, q)), "B[a|p | q](p | q)": formula.Belief(0, formula.Or(p, q), formula.Or(p, q)), "[!p -> q](p -> q)": formula.Announce(formula.Imp(p, q), formula.Imp(p, q)),
		"[act1.2](p & q) & r": formula.And(formula.Act(1, 2, formula.And(p, q)), r), "prev (p since q)": formula.Prev(formula.Since(p, q)), "next p until q": formula.Until(formula.Next(p), q),
	} {
		checkText(t, wide(), f, want)
	}
}

// TestNames is P7.2: the names are those of the signature.
func TestNames(t *testing.T) {
	s := api.Signature{Agents: []string{"zoe", "al", "b_2"}, Facts: []string{"wet", "p"}, Actions: []string{"say", "x"}}
	f := formula.And(formula.Common(7, formula.Fact(1), formula.Belief(2, formula.True(), formula.Fact(0))), formula.Act(1, 7, formula.Every(5, formula.Fact(1))))
	checkText(t, s, f, "C[zoe,al,b_2|p]B[b_2]wet & [x.7]E[zoe,b_2]p")
}

// pairs returns the indices of the parentheses of a text: each one that opens, with the one that closes.
func pairs(text string) [][2]int {
	var open []int
	var l [][2]int
	for i := range len(text) {
		switch text[i] {
		case '(':
			open = append(open, i)
		case ')':
			l = append(l, [2]int{open[len(open)-1], i})
			open = open[:len(open)-1]
		}
	}
	return l
}

// checkFormula is P7.2 and P7.3 for a formula: its text is that of the table, is read as this formula, and needs its parentheses.
func checkFormula(t *testing.T, s api.Signature, f []api.Node) string {
	t.Helper()
	text, e := Print(s, f)
	if want, _ := textOf(s, f, len(f)-1); e != api.OK || text != want {
		t.Fatalf("%v: %q, %d, not %q", f, text, e, want)
	}
	c := formula.Compact(f)
	if g, _, e := parser.Parse(s, text); e != api.OK || !slices.Equal(g, c) {
		t.Fatalf("%q is read as %v, %d, not %v", text, g, e, c)
	}
	for _, p := range pairs(text) {
		less := text[:p[0]] + text[p[0]+1:p[1]] + text[p[1]+1:]
		if g, _, e := parser.Parse(s, less); e == api.OK && slices.Equal(g, c) {
			t.Fatalf("%q has the formula of %q, too", less, text)
		}
	}
	return text
}

// TestNested is P7.2 and P7.3 for all operators at all places of all operators.
func TestNested(t *testing.T) {
	p, q := formula.Fact(0), formula.Fact(1)
	texts := map[string]string{}
	check := func(f []api.Node) {
		text := checkFormula(t, wide(), f)
		tree := treeOf(f, len(f)-1)
		if before, found := texts[text]; found && before != tree {
			t.Fatalf("%q is the text of %s and %s", text, before, tree)
		}
		texts[text] = tree
	}
	var inner [][]api.Node
	for _, n := range nodes() {
		inner = append(inner, joined(n, p, q), joined(n, q, p))
	}
	for _, n := range nodes() {
		for i, x := range inner {
			check(joined(n, x, q))
			check(joined(n, p, x))
			for _, m := range nodes() {
				check(joined(n, joined(m, x, inner[(i+4)%len(inner)]), inner[(i+9)%len(inner)]))
				check(joined(n, inner[(i+12)%len(inner)], joined(m, inner[(i+3)%len(inner)], x)))
			}
		}
	}
	if len(texts) < 10000 {
		t.Error("texts", len(texts))
	}
}

// treeOf returns a text that different trees do not share: all operators stand before their operands.
func treeOf(f []api.Node, node int) string {
	n := f[node]
	text := rowOf(n.Op).text
	s := "(" + string(rune('a'+n.Op)) + string(rune('0'+n.I)) + string(rune('0'+n.E)) + string(rune('0'+n.G))
	if strings.Contains(text, "X") {
		s += treeOf(f, n.X)
	}
	if strings.Contains(text, "Y") {
		s += treeOf(f, n.Y)
	}
	return s + ")"
}

// random returns a list with nodes of all operators, with operands not far before the nodes that use them.
func random(r *rand.Rand, length int) []api.Node {
	f := []api.Node{{Op: api.OpFact, I: r.IntN(8)}}
	operand := func(i int) int { return i - 1 - r.IntN(min(i, 8)) }
	for i := 1; i < length; i++ {
		n := nodes()[r.IntN(api.OpSince)]
		text := rowOf(n.Op).text
		if strings.Contains(text, "X") {
			n.X = operand(i)
		}
		if strings.Contains(text, "Y") {
			n.Y = operand(i)
		}
		f = append(f, n)
	}
	return f
}

// tooLarge reports whether the tree of a formula has very many nodes.
func tooLarge(f []api.Node) bool {
	sizes := make([]int, len(f))
	for i, n := range f {
		// An operand that is not used is the node 0, which adds no more than one.
		sizes[i] = 1 + min(sizes[n.X]+sizes[n.Y], 4*api.MaxText)
	}
	return sizes[len(f)-1] > 4*api.MaxText
}

// TestRandom is P7.1 to P7.3 for lists with shared and unused nodes: equal formulas have equal texts.
func TestRandom(t *testing.T) {
	r := rand.New(rand.NewPCG(7, 2))
	long := 0
	for range 600 {
		f := random(r, 1+r.IntN(80))
		if tooLarge(f) {
			continue
		}
		if want, _ := textOf(wide(), f, len(f)-1); len(want) > api.MaxText {
			long++
			checkError(t, wide(), f, api.ErrLimit)
			continue
		}
		text := checkFormula(t, wide(), f)
		checkText(t, wide(), formula.Compact(f), text)
	}
	if long < 5 {
		t.Error("long texts", long)
	}
}

// TestErrors is P7.1: each error, and which of two comes first.
func TestErrors(t *testing.T) {
	badNames := map[int]api.Signature{
		api.ErrName:  {Facts: []string{"p", "p"}},
		api.ErrForm:  {Facts: []string{"P"}},
		api.ErrLimit: {Agents: strings.Fields("a b c d e")},
	}
	badForms := map[int][][]api.Node{
		api.ErrForm:  {nil, {}, {{Op: api.OpNot}}, {{Op: api.OpTrue, I: 1}}},
		api.ErrOp:    {{{}}, {{Op: 22}}, {{Op: 22}, {Op: api.OpTrue}}},
		api.ErrRange: {{{Op: api.OpFact, I: 8}}, {{Op: api.OpFact, I: -1}}, {{Op: api.OpTrue}, {Op: api.OpEvery}}, {{Op: api.OpTrue}, {Op: api.OpKnow, I: 4}}},
		api.ErrLimit: {slices.Repeat([]api.Node{{Op: api.OpTrue}}, 201), slices.Repeat([]api.Node{{Op: 22}}, 201)},
	}
	for e, s := range badNames {
		checkError(t, s, formula.Fact(0), e)
		checkError(t, s, formula.True(), e)
		for _, l := range badForms {
			for _, f := range l {
				checkError(t, s, f, e)
			}
		}
	}
	for e, l := range badForms {
		for _, f := range l {
			checkError(t, names(), f, e)
			checkError(t, api.Signature{}, f, e)
		}
	}
	// Errors of nodes come before names that there are not.
	checkError(t, names(), []api.Node{{Op: api.OpFact, I: 7}, {Op: 22}}, api.ErrOp)
}

// TestNameless is P7.1: what occurs must have a name, unless only nodes that are not used contain it.
func TestNameless(t *testing.T) {
	s := names()
	yes := formula.True()
	for _, f := range [][]api.Node{
		formula.Fact(3), formula.Fact(7), formula.Know(2, yes), formula.Poss(3, yes), formula.Safe(2, yes), formula.Belief(2, yes, yes),
		formula.Every(4, yes), formula.Every(7, yes), formula.Dist(9, yes), formula.Common(6, yes, yes), formula.Act(1, 0, yes), formula.Act(7, 7, yes),
	} {
		checkError(t, s, f, api.ErrRange)
		checkError(t, s, formula.And(yes, formula.Not(f)), api.ErrRange)
		checkError(t, s, formula.Common(1, f, yes), api.ErrRange)
		checkError(t, s, formula.Announce(f, yes), api.ErrRange)
		checkText(t, s, append(slices.Clone(f), api.Node{Op: api.OpFact, I: 2}), "r")
		if _, e := Print(wide(), f); e != api.OK {
			t.Errorf("%v: %d", f, e)
		}
	}
	for _, f := range [][]api.Node{formula.Fact(2), formula.Know(1, yes), formula.Every(3, yes), formula.Common(2, yes, yes), formula.Act(0, 7, yes)} {
		if text, e := Print(s, f); text == "" || e != api.OK {
			t.Errorf("%v: %q, %d", f, text, e)
		}
	}
	checkText(t, api.Signature{}, formula.Not(yes), "~true")
	for _, f := range [][]api.Node{formula.Fact(0), formula.Know(0, yes), formula.Dist(1, yes), formula.Act(0, 0, yes)} {
		checkError(t, api.Signature{}, f, api.ErrRange)
	}
}

// doubled returns a formula of n nodes whose tree is twice as large with each node.
func doubled(n int) []api.Node {
	f := []api.Node{{Op: api.OpFact}}
	for i := range n - 1 {
		f = append(f, api.Node{Op: api.OpAnd, X: i, Y: i})
	}
	return f
}

// TestLimit is P7.1: texts of as many bytes as there may be, of one more, and of very many more.
func TestLimit(t *testing.T) {
	// A conjunction of n facts, of names of 8 bytes, has 11 n - 3 bytes, and each ~ adds one.
	s := api.Signature{Agents: []string{"a"}, Facts: []string{"pppppppp"}}
	conjunction := func(negations int) []api.Node {
		f := formula.Fact(0)
		for range negations {
			f = formula.Not(f)
		}
		for range 180 {
			f = formula.And(f, formula.Fact(0))
		}
		return f
	}
	short, _ := Print(s, conjunction(0))
	if len(short) != 11*181-3 {
		t.Fatal(len(short))
	}
	// Two of them, one in parentheses, and some negations before both.
	twice := func(first, both int) []api.Node {
		f := formula.And(conjunction(first), conjunction(first))
		for range both {
			f = formula.Not(f)
		}
		return f
	}
	for i, c := range []struct{ first, both, size int }{{2, 0, 3985}, {3, 0, 3987}, {8, 0, 3997}, {8, 1, 4000}, {9, 0, 3999}, {9, 1, 0}, {10, 0, 0}, {10, 1, 0}, {2, 12, 3999}, {2, 13, 4000}, {2, 14, 0}} {
		f := twice(c.first, c.both)
		if len(f) == 0 {
			t.Fatal("case", i, "is no formula")
		}
		text, e := Print(s, f)
		if len(text) != c.size || (e == api.OK) != (c.size > 0) || e != api.OK && e != api.ErrLimit {
			t.Errorf("case %d: %d bytes, %d", i, len(text), e)
		}
	}
	for _, n := range []int{20, 64, 200} {
		checkError(t, names(), doubled(n), api.ErrLimit)
		checkError(t, api.Signature{}, doubled(n), api.ErrRange)
		f := append(doubled(n)[:n-1], api.Node{Op: api.OpFact, I: 1})
		checkText(t, names(), f, "q")
	}
	checkError(t, names(), append(doubled(150), api.Node{Op: api.OpKnow, I: 2, X: 149}), api.ErrRange)
}

// TestDeep is P1 of DOC.md and P7.2: the deepest formulas, with operands behind brackets, in them, and between others.
func TestDeep(t *testing.T) {
	for _, c := range []struct {
		n             api.Node
		before, after string
	}{
		{api.Node{Op: api.OpNot}, "~", ""},
		{api.Node{Op: api.OpNext}, "next ", ""},
		{api.Node{Op: api.OpEvery, G: 3}, "E[a,b]", ""},
		{api.Node{Op: api.OpAct, I: 0, E: 3}, "[tell.3]", ""},
	} {
		f := formula.Fact(0)
		for range 199 {
			f = joined(c.n, f, nil)
		}
		checkText(t, names(), f, strings.Repeat(c.before, 199)+"p"+strings.Repeat(c.after, 199))
	}
	left, right, condition := formula.Fact(0), formula.Fact(0), formula.Fact(0)
	for range 199 {
		left, right = formula.Imp(left, formula.Fact(0)), formula.Imp(formula.Fact(0), right)
		condition = formula.Announce(condition, formula.Fact(0))
	}
	checkText(t, names(), left, strings.Repeat("(", 198)+"p -> p"+strings.Repeat(") -> p", 198))
	checkText(t, names(), right, "p"+strings.Repeat(" -> p", 199))
	checkText(t, names(), condition, strings.Repeat("[!", 199)+"p"+strings.Repeat("]p", 199))
}

// TestMemory is the rule 'Values' of DOC.md: arguments stay as they are.
func TestMemory(t *testing.T) {
	s := names()
	s.Agents = append(s.Agents, "mark")[:2]
	f := append(formula.Common(3, formula.Fact(1), formula.Fact(0)), api.Node{Op: 99})[:3]
	before := slices.Clone(f[:4])
	for range 2 {
		checkText(t, s, f, "C[a,b|q]p")
	}
	if !slices.Equal(f[:4], before) || strings.Join(s.Agents[:3], " ") != "a b mark" || strings.Join(s.Facts, " ") != "p q r" {
		t.Error("arguments were changed:", f[:4], s)
	}
}

// FuzzPrint is P7.3: the formula of a text has a text that is read as this formula.
func FuzzPrint(f *testing.F) {
	for _, text := range []string{"p", "(p -> q) -> r", "C[a|true]p", "C[b,a|p | q]~(r)", "[!p <-> q](p until q)", "[tell.7]next (p & q)", "B[a|B[b]p](p -> p)", "S[a](p since (q until r))"} {
		f.Add(text)
	}
	f.Fuzz(func(t *testing.T, text string) {
		g, _, e := parser.Parse(names(), text)
		if e != api.OK {
			return
		}
		if want, _ := textOf(names(), g, len(g)-1); len(want) <= api.MaxText {
			checkFormula(t, names(), g)
			return
		}
		checkError(t, names(), g, api.ErrLimit)
	})
}
