package printer

import (
	"strconv"
	"strings"
	"testing"

	"witting/api"
	"witting/formula"
)

// row is a row of the chapter's table: in the text, A stands for the agents, I for the name of a fact or an action model, E for the event.
type row struct {
	op    int
	text  string
	level int
}

// rows is the chapter's table.
func rows() []row {
	return []row{
		{api.OpTrue, "true", 5}, {api.OpFalse, "false", 5}, {api.OpFact, "I", 5},
		{api.OpNot, "~X", 5},
		{api.OpKnow, "K[A]X", 5}, {api.OpPoss, "M[A]X", 5}, {api.OpSafe, "S[A]X", 5},
		{api.OpEvery, "E[A]X", 5}, {api.OpDist, "D[A]X", 5},
		{api.OpCommon, "C[A|X]Y", 5}, {api.OpBelief, "B[A|X]Y", 5},
		{api.OpAnnounce, "[!X]Y", 5}, {api.OpAct, "[I.E]X", 5},
		{api.OpNext, "next X", 5}, {api.OpPrev, "prev X", 5},
		{api.OpAnd, "X & Y", 4}, {api.OpOr, "X | Y", 3},
		{api.OpUntil, "X until Y", 2}, {api.OpSince, "X since Y", 2},
		{api.OpImp, "X -> Y", 1}, {api.OpIff, "X <-> Y", 0},
	}
}

// rowOf returns the row of an operator.
func rowOf(op int) row {
	for _, r := range rows() {
		if r.op == op {
			return r
		}
	}
	return row{}
}

// required returns the levels that are required of X and Y, as the chapter says it.
func (r row) required() (int, int) {
	switch r.op {
	case api.OpAnd, api.OpOr, api.OpIff:
		return r.level, r.level + 1
	case api.OpImp, api.OpUntil, api.OpSince:
		return r.level + 1, r.level
	case api.OpCommon, api.OpBelief, api.OpAnnounce:
		return 0, 5
	}
	return 5, 5
}

// wide returns a signature with as many names as there may be.
func wide() api.Signature {
	s, _ := signatureOf(4, 8, 8)
	return s
}

// agentsOf returns the agents of a node, as text.
func agentsOf(s api.Signature, n api.Node) string {
	var l []string
	for agent, name := range s.Agents {
		if n.G>>agent&1 == 1 || n.G == 0 && n.I == agent {
			l = append(l, name)
		}
	}
	return strings.Join(l, ",")
}

// textOf returns the text and the level of a node, by the chapter's table. (The names of facts and action models have no capital letters.)
func textOf(s api.Signature, f []api.Node, node int) (string, int) {
	n := f[node]
	r := rowOf(n.Op)
	text := r.text
	if (n.Op == api.OpCommon || n.Op == api.OpBelief) && f[n.X].Op == api.OpTrue {
		text = strings.Replace(text, "|X", "", 1)
	}
	var b strings.Builder
	x, y := r.required()
	for i := range len(text) {
		switch c := text[i]; {
		case c == 'X':
			b.WriteString(enclosed(s, f, n.X, x))
		case c == 'Y':
			b.WriteString(enclosed(s, f, n.Y, y))
		case c == 'A':
			b.WriteString(agentsOf(s, n))
		case c == 'I' && n.Op == api.OpFact:
			b.WriteString(s.Facts[n.I])
		case c == 'I':
			b.WriteString(s.Actions[n.I])
		case c == 'E' && n.Op == api.OpAct:
			b.WriteString(strconv.Itoa(n.E))
		default:
			b.WriteByte(c)
		}
	}
	return b.String(), r.level
}

// enclosed returns the text of a node at a place with a required level.
func enclosed(s api.Signature, f []api.Node, node, required int) string {
	text, level := textOf(s, f, node)
	if level < required {
		return "(" + text + ")"
	}
	return text
}

// joined returns the formula of a node with operands.
func joined(n api.Node, x, y []api.Node) []api.Node {
	text := rowOf(n.Op).text
	f := append([]api.Node{}, x...)
	if strings.Contains(text, "X") {
		n.X = len(x) - 1
	}
	if strings.Contains(text, "Y") {
		n.Y = len(x) + len(y) - 1
	}
	for _, m := range y {
		text := rowOf(m.Op).text
		if strings.Contains(text, "X") {
			m.X += len(x)
		}
		if strings.Contains(text, "Y") {
			m.Y += len(x)
		}
		f = append(f, m)
	}
	return formula.Compact(append(f, n))
}

// nodes returns a node of each operator, with numbers that differ where they can.
func nodes() []api.Node {
	var l []api.Node
	for _, r := range rows() {
		n := api.Node{Op: r.op}
		switch r.op {
		case api.OpFact, api.OpKnow, api.OpPoss, api.OpSafe, api.OpBelief:
			n.I = 3 - r.op%4
		case api.OpEvery, api.OpDist, api.OpCommon:
			n.G = r.op
		case api.OpAct:
			n.I, n.E = 6, 5
		}
		l = append(l, n)
	}
	return l
}

// TestTable is the test of the helpers: each operator has one row, and makes formulas.
func TestTable(t *testing.T) {
	if len(rows()) != api.OpSince {
		t.Fatal("operators", len(rows()))
	}
	for _, n := range nodes() {
		f := joined(n, formula.Fact(0), formula.Not(formula.Fact(1)))
		if formula.Check(f) != api.OK || f[len(f)-1].Op != n.Op {
			t.Errorf("%v: %v", n, f)
		}
	}
}
