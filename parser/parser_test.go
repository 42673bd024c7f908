package parser

import (
	"math/rand/v2"
	"slices"
	"strings"
	"testing"

	"witting/api"
	"witting/formula"
)

// names returns the signature of the chapter's examples.
func names() api.Signature {
	return api.Signature{Agents: []string{"a", "b"}, Facts: []string{"p", "q", "r"}, Actions: []string{"tell"}}
}

// wide returns a signature with as many names as there may be.
func wide() api.Signature {
	return api.Signature{
		Agents:  []string{"a", "b", "c", "d"},
		Facts:   []string{"p", "q", "r", "s", "t", "u", "v", "w"},
		Actions: strings.Fields("x0 x1 x2 x3 x4 x5 x6 x7"),
	}
}

// checkText compares the formula of a text.
func checkText(t *testing.T, s api.Signature, text string, want []api.Node) {
	t.Helper()
	f, position, e := Parse(s, text)
	if e != api.OK || position != 0 || !slices.Equal(f, want) || formula.Check(f) != api.OK {
		t.Errorf("Parse(%q) is %v, %d, %d, not %v", text, f, position, e, want)
	}
}

// checkError compares the error of a text.
func checkError(t *testing.T, s api.Signature, text string, position, want int) {
	t.Helper()
	f, at, e := Parse(s, text)
	if len(f) != 0 || at != position || e != want {
		t.Errorf("Parse(%q) is %v, %d, %d, not %d, %d", text, f, at, e, position, want)
	}
}

// TestExamples are the chapter's examples.
func TestExamples(t *testing.T) {
	s := names()
	p, q, r := formula.Fact(0), formula.Fact(1), formula.Fact(2)
	checkText(t, s, "p & q & r", formula.And(formula.And(p, q), r))
	checkText(t, s, "p -> q -> r", formula.Imp(p, formula.Imp(q, r)))
	checkText(t, s, "~p & q", formula.And(formula.Not(p), q))
	checkText(t, s, "K[a]p & q", formula.And(formula.Know(0, p), q))
	checkText(t, s, "p until q since r", formula.Until(p, formula.Since(q, r)))
	checkText(t, s, "p", []api.Node{{Op: api.OpFact, I: 0}})
	checkText(t, s, "p & p", []api.Node{{Op: api.OpFact, I: 0}, {Op: api.OpAnd, X: 0, Y: 0}})
	checkText(t, s, "C[a,b|q]p", []api.Node{{Op: api.OpFact, I: 1}, {Op: api.OpFact, I: 0}, {Op: api.OpCommon, G: 3, X: 0, Y: 1}})
	checkText(t, s, "C[b]p", []api.Node{{Op: api.OpTrue}, {Op: api.OpFact, I: 0}, {Op: api.OpCommon, G: 2, X: 0, Y: 1}})
	checkText(t, s, "[!p]q", []api.Node{{Op: api.OpFact, I: 0}, {Op: api.OpFact, I: 1}, {Op: api.OpAnnounce, X: 0, Y: 1}})
	checkText(t, s, "[tell.1]p", []api.Node{{Op: api.OpFact, I: 0}, {Op: api.OpAct, I: 0, E: 1, X: 0}})
	for text, position := range map[string]int{"p &": 3, "p q": 2, "K[a,b]p": 3, "p <- q": 2, "": 0} {
		checkError(t, s, text, position, api.ErrSyntax)
	}
	checkError(t, s, "K[c]p", 2, api.ErrName)
	checkError(t, s, "E[a,a]p", 4, api.ErrExist)
	checkError(t, s, "[tell.8]p", 6, api.ErrRange)
	checkError(t, s, "s & (", 0, api.ErrName)
	// The first example of the whole system.
	checkText(t, s, "p & q -> K[a]p", formula.Imp(formula.And(p, q), formula.Know(0, p)))
}

// TestMeaning is P6.2: each operator, and how they group.
func TestMeaning(t *testing.T) {
	s := wide()
	p, q, r, yes := formula.Fact(0), formula.Fact(1), formula.Fact(2), formula.True()
	for text, want := range map[string][]api.Node{
		"true": yes, "false": formula.False(), "w": formula.Fact(7), "((p))": p,
		"~p": formula.Not(p), "~~p": formula.Not(formula.Not(p)), "next p": formula.Next(p), "prev ~next p": formula.Prev(formula.Not(formula.Next(p))),
		"p | q": formula.Or(p, q), "p -> q": formula.Imp(p, q), "p <-> q": formula.Iff(p, q), "p until q": formula.Until(p, q), "q since p": formula.Since(q, p),
		"K[d]p": formula.Know(3, p), "M[b]p": formula.Poss(1, p), "S[c]p": formula.Safe(2, p),
		"E[d,b]p": formula.Every(10, p), "D[c]p": formula.Dist(4, p), "D[a,b,c,d]p": formula.Dist(15, p),
		"B[c]p": formula.Belief(2, yes, p), "B[d|q]p": formula.Belief(3, q, p), "B[a|p|q]r": formula.Belief(0, formula.Or(p, q), r),
		"C[d,a]p": formula.Common(9, yes, p), "C[b|p|q]r": formula.Common(2, formula.Or(p, q), r), "C[a|true]p": formula.Common(1, yes, p),
		"[x7.7]p": formula.Act(7, 7, p), "[x0.0]p": formula.Act(0, 0, p), "[!p <-> q]r": formula.Announce(formula.Iff(p, q), r),
		"p <-> q <-> r": formula.Iff(formula.Iff(p, q), r), "p | q | r": formula.Or(formula.Or(p, q), r), "p & q & r": formula.And(formula.And(p, q), r),
		"p -> q -> r": formula.Imp(p, formula.Imp(q, r)), "p until q until r": formula.Until(p, formula.Until(q, r)), "p since q until r": formula.Since(p, formula.Until(q, r)),
		"p <-> q -> r": formula.Iff(p, formula.Imp(q, r)), "p -> q <-> r": formula.Iff(formula.Imp(p, q), r),
		"p -> q until r": formula.Imp(p, formula.Until(q, r)), "p until q -> r": formula.Imp(formula.Until(p, q), r),
		"p | q until r": formula.Until(formula.Or(p, q), r), "p since q | r": formula.Since(p, formula.Or(q, r)),
		"p & q | r": formula.Or(formula.And(p, q), r), "p | q & r": formula.Or(p, formula.And(q, r)),
		"~p & q": formula.And(formula.Not(p), q), "next p | q": formula.Or(formula.Next(p), q), "K[a]p -> q": formula.Imp(formula.Know(0, p), q),
		"[!p]q & r": formula.And(formula.Announce(p, q), r), "[x1.2]q until r": formula.Until(formula.Act(1, 2, q), r),
		"(p -> q) -> r": formula.Imp(formula.Imp(p, q), r), "(p until q) until r": formula.Until(formula.Until(p, q), r),
		"p & (q & r)": formula.And(p, formula.And(q, r)), "p <-> (q <-> r)": formula.Iff(p, formula.Iff(q, r)), "~(p & q)": formula.Not(formula.And(p, q)),
		"C[a|B[b|q]p]K[c]r": formula.Common(1, formula.Belief(1, q, p), formula.Know(2, r)),
		"[![!p]q]r":         formula.Announce(formula.Announce(p, q), r),
		"K[a]M[b]~[x0.1]p":  formula.Know(0, formula.Poss(1, formula.Not(formula.Act(0, 1, p)))),
	} {
		checkText(t, s, text, want)
		tight := strings.NewReplacer("next ", "next@", "prev ", "prev@", " until ", "@until@", " since ", "@since@", " ", "", "@", " ").Replace(text)
		checkText(t, s, strings.ReplaceAll(tight, "@", " "), want)
	}
}

// TestErrors is P6.2: errors of each kind, and which of two comes first.
func TestErrors(t *testing.T) {
	s := names()
	for _, c := range []struct {
		text        string
		position, e int
	}{
		{"  \t\n", 4, api.ErrSyntax}, {"p & ", 4, api.ErrSyntax}, {"p)", 1, api.ErrSyntax}, {"(p", 2, api.ErrSyntax}, {"(p]", 2, api.ErrSyntax}, {"()", 1, api.ErrSyntax},
		{"p q $", 4, api.ErrSyntax}, {"x $", 2, api.ErrSyntax}, {"$", 0, api.ErrSyntax}, {"p <- q", 2, api.ErrSyntax},
		{"1", 0, api.ErrSyntax}, {"p 1", 2, api.ErrSyntax}, {"p1", 0, api.ErrName}, {"1p", 0, api.ErrSyntax},
		{"until", 0, api.ErrSyntax}, {"p until", 7, api.ErrSyntax}, {"p untilq", 2, api.ErrSyntax}, {"p next q", 2, api.ErrSyntax}, {"p ~q", 2, api.ErrSyntax},
		{"K", 1, api.ErrSyntax}, {"K p", 2, api.ErrSyntax}, {"K[", 2, api.ErrSyntax}, {"K[]p", 2, api.ErrSyntax}, {"K[1]p", 2, api.ErrSyntax}, {"K[K]p", 2, api.ErrSyntax},
		{"K[true]p", 2, api.ErrSyntax}, {"K[do]p", 2, api.ErrName}, {"K[p]p", 2, api.ErrName}, {"K[a", 3, api.ErrSyntax}, {"K[a|q]p", 3, api.ErrSyntax}, {"K[a]", 4, api.ErrSyntax},
		{"S[a|q]p", 3, api.ErrSyntax}, {"M[a,b]p", 3, api.ErrSyntax}, {"B[a,b]p", 3, api.ErrSyntax}, {"B[a|]p", 4, api.ErrSyntax}, {"B[a|q", 5, api.ErrSyntax}, {"B[q]p", 2, api.ErrName},
		{"E[a|q]p", 3, api.ErrSyntax}, {"D[a,]p", 4, api.ErrSyntax}, {"D[,a]p", 2, api.ErrSyntax}, {"C[a,|q]p", 4, api.ErrSyntax}, {"C[a|q,b]p", 5, api.ErrSyntax}, {"C[a|b]p", 4, api.ErrName},
		{"E[a,b,a]p", 6, api.ErrExist}, {"C[b,b|", 4, api.ErrExist}, {"D[a,c]p", 4, api.ErrName}, {"D[c,a,a]p", 2, api.ErrName}, {"D[a,a,c]p", 4, api.ErrExist},
		{"E[a]E[a]p x", 10, api.ErrSyntax}, {"E[a]D[a,b]C[b,a]s", 16, api.ErrName},
		{"[p", 1, api.ErrName}, {"[a.1]p", 1, api.ErrName}, {"[]p", 1, api.ErrSyntax}, {"[1.tell]p", 1, api.ErrSyntax}, {"[true.1]p", 1, api.ErrSyntax}, {"[K.1]p", 1, api.ErrSyntax},
		{"[tell]p", 5, api.ErrSyntax}, {"[tell.]p", 6, api.ErrSyntax}, {"[tell.x]p", 6, api.ErrSyntax}, {"[tell.1", 7, api.ErrSyntax}, {"[tell.1.2]p", 7, api.ErrSyntax},
		{"[tell.9]p", 6, api.ErrRange}, {"[tell.07]p", 6, api.ErrRange}, {"[tell.00]p", 6, api.ErrRange}, {"[tell.10]p", 6, api.ErrRange}, {"[tell. 18446744073709551617]p", 7, api.ErrRange},
		{"[!]p", 2, api.ErrSyntax}, {"[!p", 3, api.ErrSyntax}, {"[!p]", 4, api.ErrSyntax}, {"[!s]", 2, api.ErrName}, {"[!!p]q", 2, api.ErrSyntax},
		{"tell", 0, api.ErrName}, {"a", 0, api.ErrName}, {"P", 0, api.ErrName}, {"_", 0, api.ErrName}, {"do", 0, api.ErrName}, {"pp", 0, api.ErrName}, {"True", 0, api.ErrName},
		{"p & s )", 4, api.ErrName}, {"p & ) s", 4, api.ErrSyntax}, {"s", 0, api.ErrName}, {"p ! q", 2, api.ErrSyntax}, {"p, q", 1, api.ErrSyntax}, {". p", 0, api.ErrSyntax},
		{strings.Repeat(" ", 4001), 0, api.ErrLimit}, {strings.Repeat("s", 4001), 0, api.ErrLimit},
	} {
		checkError(t, s, c.text, c.position, c.e)
	}
}

// TestSignatureFirst is P6.2: the error of the signature comes before all others.
func TestSignatureFirst(t *testing.T) {
	for _, text := range []string{"p", "", "$", " p q", strings.Repeat(" ", 4001), "s"} {
		checkError(t, api.Signature{Facts: []string{"p", "p"}}, text, 0, api.ErrName)
		checkError(t, api.Signature{Facts: []string{"K", "p"}}, text, 0, api.ErrForm)
		checkError(t, api.Signature{Agents: []string{"p", "until"}}, text, 0, api.ErrName)
		checkError(t, api.Signature{Agents: strings.Fields("a b c d e")}, text, 0, api.ErrLimit)
	}
	checkError(t, api.Signature{}, "p", 0, api.ErrName)
	checkText(t, api.Signature{}, "true", formula.True())
}

// TestShortTexts is P6.2: the error of every text of few tokens, against the grammar.
func TestShortTexts(t *testing.T) {
	s := names()
	tokens := strings.Fields("p s a tell K E B C [ ] ( ) | , . ! ~ & <-> -> until next true 3 8 33")
	texts := 0
	var extend func(table *table, begun []string)
	extend = func(table *table, begun []string) {
		for _, token := range tokens {
			text := append(slices.Clone(begun), token)
			longer, possible := table.with(token)
			checkTokensOf(t, s, text)
			texts++
			if possible && nameError(s, text) == api.OK && len(text) < 4 {
				extend(longer, text)
			}
		}
	}
	extend(newTable(), nil)
	if texts < 5000 {
		t.Error("texts", texts)
	}
}

// checkTokensOf compares the error of tokens with that of the grammar, and returns the error.
func checkTokensOf(t *testing.T, s api.Signature, tokens []string) int {
	t.Helper()
	text := strings.Join(tokens, " ")
	index, e := firstError(s, tokens)
	position := 0
	if e != api.OK {
		position = len(strings.Join(tokens[:index], " "))
		if index > 0 && index < len(tokens) {
			position++
		}
	}
	if f, at, got := Parse(s, text); got != e || at != position || (len(f) > 0) != (e == api.OK) {
		t.Errorf("Parse(%q) is %v, %d, %d, not %d, %d", text, f, at, got, position, e)
	}
	return e
}

// writer writes random texts of the grammar together with their formulas.
type writer struct {
	*rand.Rand
	tokens []string
}

func (w *writer) write(tokens ...string) {
	w.tokens = append(w.tokens, tokens...)
}

// left writes some operands that group to the left.
func (w *writer) left(sign string, join func(f, g []api.Node) []api.Node, operand func(n int) []api.Node, n int) []api.Node {
	f := operand(n)
	for n > 0 && w.IntN(4) == 0 {
		w.write(sign)
		f = join(f, operand(n-1))
	}
	return f
}

func (w *writer) formula(n int) []api.Node {
	return w.left("<->", formula.Iff, w.implies, n)
}

func (w *writer) implies(n int) []api.Node {
	f := w.time(n)
	if n > 0 && w.IntN(4) == 0 {
		w.write("->")
		return formula.Imp(f, w.implies(n-1))
	}
	return f
}

func (w *writer) time(n int) []api.Node {
	f := w.left("|", formula.Or, w.and, n)
	switch {
	case n > 0 && w.IntN(8) == 0:
		w.write("until")
		return formula.Until(f, w.time(n-1))
	case n > 0 && w.IntN(8) == 0:
		w.write("since")
		return formula.Since(f, w.time(n-1))
	}
	return f
}

func (w *writer) and(n int) []api.Node {
	return w.left("&", formula.And, w.prefix, n)
}

// agents writes the names of a group, in any order.
func (w *writer) agents() int {
	l := w.Perm(4)[:1+w.IntN(4)]
	group := 0
	for i, agent := range l {
		if i > 0 {
			w.write(",")
		}
		w.write(wide().Agents[agent])
		group |= 1 << agent
	}
	return group
}

// condition writes a condition or none.
func (w *writer) condition(n int) []api.Node {
	if w.IntN(2) == 0 {
		return formula.True()
	}
	w.write("|")
	return w.formula(n)
}

func (w *writer) prefix(n int) []api.Node {
	agent, i := w.IntN(4), w.IntN(8)
	name := wide().Agents[agent]
	if n == 0 {
		w.write(wide().Facts[i])
		return formula.Fact(i)
	}
	switch w.IntN(9) {
	case 0:
		w.write("~")
		return formula.Not(w.prefix(n - 1))
	case 1:
		w.write("next")
		return formula.Next(w.prefix(n - 1))
	case 2:
		w.write("K", "[", name, "]")
		return formula.Know(agent, w.prefix(n-1))
	case 3:
		w.write("(")
		f := w.formula(n - 1)
		w.write(")")
		return f
	case 4:
		w.write("true")
		return formula.True()
	}
	return w.bracketed(n, agent, i)
}

func (w *writer) bracketed(n, agent, i int) []api.Node {
	switch w.IntN(5) {
	case 0:
		w.write("B", "[", wide().Agents[agent])
		x := w.condition(n - 1)
		w.write("]")
		return formula.Belief(agent, x, w.prefix(n-1))
	case 1:
		w.write("C", "[")
		group := w.agents()
		x := w.condition(n - 1)
		w.write("]")
		return formula.Common(group, x, w.prefix(n-1))
	case 2:
		w.write("D", "[")
		group := w.agents()
		w.write("]")
		return formula.Dist(group, w.prefix(n-1))
	case 3:
		w.write("[", "!")
		x := w.formula(n - 1)
		w.write("]")
		return formula.Announce(x, w.prefix(n-1))
	}
	w.write("[", wide().Actions[i], ".", wide().Actions[7-i][1:], "]")
	return formula.Act(i, 7-i, w.prefix(n-1))
}

// changed returns the tokens, their beginning, and what they are with a token less, more or another one at an index.
func changed(tokens []string, i int, other string) [][]string {
	replaced := slices.Clone(tokens)
	replaced[i] = other
	return [][]string{
		tokens, tokens[:i], replaced,
		slices.Delete(slices.Clone(tokens), i, i+1),
		slices.Insert(slices.Clone(tokens), i, other),
	}
}

// TestRandomTexts is P6.2 and P6.4: texts of the grammar, their spaces, and the errors when one token is another one or missing.
func TestRandomTexts(t *testing.T) {
	s := wide()
	others := strings.Fields("p z a b d x3 true K B C E [ ] ( ) | , . ! ~ & <-> -> until since next 3 8 07")
	w := &writer{Rand: rand.New(rand.NewPCG(6, 2))}
	errors := map[int]int{}
	for range 2000 {
		w.tokens = nil
		want := w.formula(4)
		if len(want) == 0 || len(w.tokens) > 40 {
			continue
		}
		checkText(t, s, strings.Join(w.tokens, " "), want)
		checkText(t, s, "\t"+strings.Join(w.tokens, "\n \t")+"  ", want)
		for _, other := range []string{others[w.IntN(len(others))], others[w.IntN(len(others))], w.tokens[w.IntN(len(w.tokens))]} {
			for _, tokens := range changed(w.tokens, w.IntN(len(w.tokens)), other) {
				errors[checkTokensOf(t, s, tokens)]++
			}
		}
	}
	for _, e := range []int{api.OK, api.ErrSyntax, api.ErrName, api.ErrExist, api.ErrRange} {
		if errors[e] < 10 {
			t.Error("texts with the error", e, errors[e])
		}
	}
}

// TestLimit is P6.2: the nodes of the compact list are counted, and that is found last.
func TestLimit(t *testing.T) {
	s := wide()
	chain := func(n int) string { return strings.Repeat("~", n-1) + "p" }
	for _, c := range []struct {
		text           string
		size, position int
		e              int
	}{
		{chain(200), 200, 0, api.OK},
		{chain(201), 0, 0, api.ErrLimit},
		{"\n  " + chain(201), 0, 3, api.ErrLimit},
		{" " + chain(3900), 0, 1, api.ErrLimit},
		{chain(199) + " & " + chain(199), 200, 0, api.OK},
		{chain(198) + " & " + chain(20) + " & " + chain(198), 200, 0, api.OK},
		{chain(199) + " & q", 0, 0, api.ErrLimit},
		{"((" + chain(200) + "))", 200, 0, api.OK},
		{" ((" + chain(201) + "))", 0, 1, api.ErrLimit},
		{"p" + strings.Repeat(" & p", 199), 200, 0, api.OK},
		{"p" + strings.Repeat(" & p", 200), 0, 0, api.ErrLimit},
		{chain(201) + " q", 0, 202, api.ErrSyntax},
		{chain(201) + " &", 0, 203, api.ErrSyntax},
		{chain(201) + " & z", 0, 204, api.ErrName},
		{"E[a,a]" + chain(201), 0, 4, api.ErrExist},
		{chain(201) + " & [x1.8]p", 0, 208, api.ErrRange},
		{strings.Repeat("(", 1900) + "p" + strings.Repeat(")", 1900), 1, 0, api.OK},
		{strings.Repeat("(", 4000), 0, 4000, api.ErrSyntax},
		{strings.Repeat("~", 4000), 0, 4000, api.ErrSyntax},
		{strings.Repeat("p->", 1333) + "p", 0, 0, api.ErrLimit},
		{"p" + strings.Repeat("<->p", 900), 0, 0, api.ErrLimit},
		{strings.Repeat("[!", 2000), 0, 4000, api.ErrSyntax},
		{strings.Repeat("C[a|", 1000), 0, 4000, api.ErrSyntax},
	} {
		if f, position, e := Parse(s, c.text); len(f) != c.size || position != c.position || e != c.e {
			t.Errorf("%.20q of %d bytes: %d nodes, %d, %d", c.text, len(c.text), len(f), position, e)
		}
	}
}

// TestJoinedTexts is P6.4: what encloses texts joins their formulas, and superfluous parentheses change nothing.
func TestJoinedTexts(t *testing.T) {
	s := names()
	texts := []string{"p", "~q", "p <-> q", "p -> q", "p until q", "p | r", "p & q", "K[a]r", "next p", "C[a,b|q]p", "[tell.3]r", "true"}
	signs := map[string]func(f, g []api.Node) []api.Node{
		"&": formula.And, "|": formula.Or, "->": formula.Imp, "<->": formula.Iff, "until": formula.Until, "since": formula.Since,
	}
	for _, a := range texts {
		f, _, _ := Parse(s, a)
		if !formula.Fits(f, 2, 3) {
			t.Errorf("%q does not fit its signature: %v", a, f)
		}
		checkText(t, s, "("+a+")", f)
		checkText(t, s, " ( (("+a+" )) )", f)
		checkText(t, s, "~("+a+")", formula.Not(f))
		for _, b := range texts {
			g, _, _ := Parse(s, b)
			for sign, join := range signs {
				checkText(t, s, "("+a+")"+sign+"("+b+")", join(f, g))
			}
			checkText(t, s, "[!"+a+"]("+b+")", formula.Announce(f, g))
			checkText(t, s, "B[b|"+a+"]("+b+")", formula.Belief(1, f, g))
		}
	}
}

// TestSameErrorWhateverFollows is P6.4: more tokens behind an error change neither it nor its position.
func TestSameErrorWhateverFollows(t *testing.T) {
	for _, text := range []string{"p q", "p & )", "K[a,", "E[a|", "[tell 1", "(p ]", "p until ->", "B[a] |", "[!p ,"} {
		_, position, e := Parse(names(), text+" ")
		for _, more := range []string{"", "p", "& q", ") )", "s", "1 2", "K[c]"} {
			checkError(t, names(), text+" "+more, position, e)
		}
	}
}

// TestMemory is P6.3: arguments stay as they are, and what is done to results does not show later.
func TestMemory(t *testing.T) {
	agents := append([]string{"a", "b"}, "mark")[:2]
	s := api.Signature{Agents: agents, Facts: []string{"p", "q", "r"}, Actions: []string{"tell"}}
	for range 2 {
		f, _, e := Parse(s, "E[a,b](p & q)")
		if want := formula.Every(3, formula.And(formula.Fact(0), formula.Fact(1))); e != api.OK || !slices.Equal(f, want) {
			t.Fatal(f, e)
		}
		words, at, _, _ := Tokens("p & q")
		if !slices.Equal(words, []string{"p", "&", "q"}) || !slices.Equal(at, []int{0, 2, 4}) {
			t.Fatal(words, at)
		}
		for i := range f[:cap(f)] {
			f[:cap(f)][i] = api.Node{Op: 99}
		}
		for i := range words {
			words[i], at[i] = "x", -1
		}
	}
	if strings.Join(s.Agents[:3], " ") != "a b mark" || strings.Join(s.Facts, " ") != "p q r" || strings.Join(s.Actions, " ") != "tell" {
		t.Error("the signature was changed:", s)
	}
}

// FuzzParse is P1 of DOC.md, P6.1 and P6.2: any text has the tokens and the error that the chapter describes.
func FuzzParse(f *testing.F) {
	for _, text := range []string{"", "p", "p & q -> K[a]p", "C[a,b|q]~p until [tell.1](r)", "E[a,a]p", "[!p", "B[b]next q <-> s", "\xff", "p <- q", "[tell.8]"} {
		f.Add(text)
	}
	f.Fuzz(func(t *testing.T, text string) {
		g, position, e := Parse(names(), text)
		if (e == api.OK) != (len(g) > 0) || position < 0 || position > len(text) {
			t.Fatalf("%q: %v, %d, %d", text, g, position, e)
		}
		if len(text) > 300 {
			return
		}
		checkTokens(t, text)
		words, at, _, bad := Tokens(text)
		if bad != api.OK {
			checkError(t, names(), text, position, bad)
			return
		}
		index, want := firstError(names(), words)
		at = append(at, len(text))
		if want == api.OK && e == api.ErrLimit {
			return
		}
		if e != want || want != api.OK && position != at[index] || len(g) > 0 && (!slices.Equal(formula.Compact(g), g) || !formula.Fits(g, 2, 3)) {
			t.Fatalf("%q: %v, %d, %d", text, g, position, e)
		}
	})
}
