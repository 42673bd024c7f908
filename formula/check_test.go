package formula

import (
	"math"
	"slices"
	"testing"

	"witting/api"
)

// use says which fields an operator uses, as the chapter's table lists them.
type use struct {
	op     int
	fields string
	below  int // what I is below
}

func uses() []use {
	return []use{
		{api.OpTrue, "", 0}, {api.OpFalse, "", 0}, {api.OpFact, "I", 8},
		{api.OpNot, "X", 0}, {api.OpNext, "X", 0}, {api.OpPrev, "X", 0},
		{api.OpAnd, "XY", 0}, {api.OpOr, "XY", 0}, {api.OpImp, "XY", 0}, {api.OpIff, "XY", 0},
		{api.OpAnnounce, "XY", 0}, {api.OpUntil, "XY", 0}, {api.OpSince, "XY", 0},
		{api.OpKnow, "IX", 4}, {api.OpPoss, "IX", 4}, {api.OpSafe, "IX", 4},
		{api.OpEvery, "GX", 0}, {api.OpDist, "GX", 0}, {api.OpCommon, "GXY", 0},
		{api.OpBelief, "IXY", 4}, {api.OpAct, "IEX", 8},
	}
}

// set returns a node with another value in a field.
func set(n api.Node, field rune, value int) api.Node {
	switch field {
	case 'I':
		n.I = value
	case 'E':
		n.E = value
	case 'G':
		n.G = value
	case 'X':
		n.X = value
	case 'Y':
		n.Y = value
	}
	return n
}

// values returns the permitted values of a field that is used by the node 2.
func values(u use, field rune) []int {
	top := map[rune]int{'I': u.below - 1, 'E': 7, 'G': 15, 'X': 1, 'Y': 1}[field]
	var l []int
	for v := range top + 1 {
		if field != 'G' || v > 0 {
			l = append(l, v)
		}
	}
	return l
}

// good returns a permitted node 2 of an operator.
func good(u use) api.Node {
	n := api.Node{Op: u.op}
	for _, field := range u.fields {
		n = set(n, field, values(u, field)[0])
	}
	return n
}

// behind returns a list with two facts before a node.
func behind(n api.Node) []api.Node {
	return []api.Node{{Op: api.OpFact, I: 1}, {Op: api.OpFact}, n}
}

// TestCheckFields is P5.1 for each field of each operator.
func TestCheckFields(t *testing.T) {
	if len(uses()) != api.OpSince {
		t.Fatal("operators", len(uses()))
	}
	for _, u := range uses() {
		for _, field := range "IEGXY" {
			used := slices.Contains([]rune(u.fields), field)
			for _, v := range []int{math.MinInt, -1, 0, 1, 2, 3, 4, 7, 8, 15, 16, math.MaxInt} {
				want := api.OK
				switch {
				case !used && v != 0:
					want = api.ErrForm
				case used && slices.Contains(values(u, field), v) || !used:
				case field == 'X' || field == 'Y':
					want = api.ErrForm
				default:
					want = api.ErrRange
				}
				if e := Check(behind(set(good(u), field, v))); e != want {
					t.Errorf("operator %d with %c %d: %d, not %d", u.op, field, v, e, want)
				}
			}
		}
	}
}

// TestCheckOrder is P5.1: which error comes first.
func TestCheckOrder(t *testing.T) {
	for _, op := range []int{0, -1, 22, 100, math.MaxInt, math.MinInt} {
		for _, n := range []api.Node{{Op: op}, {Op: op, X: -1}, {Op: op, I: 99, Y: 7}} {
			if e := Check(behind(n)); e != api.ErrOp {
				t.Errorf("%v: %d", n, e)
			}
		}
	}
	many := slices.Repeat([]api.Node{{Op: api.OpTrue}}, 201)
	wrong := slices.Repeat([]api.Node{{Op: 22}}, 201)
	for i, c := range []struct {
		f []api.Node
		e int
	}{
		{nil, api.ErrForm},
		{[]api.Node{}, api.ErrForm},
		{many[:200], api.OK},
		{many, api.ErrLimit},
		{wrong, api.ErrLimit},
		{wrong[:200], api.ErrOp},
		{behind(api.Node{Op: api.OpKnow, I: 4, X: 2}), api.ErrForm},
		{behind(api.Node{Op: api.OpEvery, G: 16, Y: 1}), api.ErrForm},
		{behind(api.Node{Op: api.OpAct, I: 8, E: 8, X: 2}), api.ErrForm},
		{behind(api.Node{Op: api.OpBelief, I: 4, X: 1, Y: 2}), api.ErrForm},
		{[]api.Node{{Op: api.OpFact, I: 8}, {Op: 22}}, api.ErrRange},
		{[]api.Node{{Op: 22}, {Op: api.OpFact, I: 8}}, api.ErrOp},
		{[]api.Node{{Op: api.OpNot}, {Op: 22}}, api.ErrForm},
		{[]api.Node{{Op: api.OpTrue}, {Op: api.OpTrue, I: 1}, {Op: api.OpFact, I: 8}}, api.ErrForm},
		{[]api.Node{{Op: api.OpTrue}, {Op: api.OpFact, I: -1}, {Op: api.OpTrue}}, api.ErrRange},
		{[]api.Node{{Op: api.OpAnd}}, api.ErrForm},
		{[]api.Node{{Op: api.OpTrue}, {Op: api.OpAnd, X: 0, Y: 1}}, api.ErrForm},
		{[]api.Node{{Op: api.OpTrue}, {Op: api.OpNot, X: 2}, {Op: api.OpTrue}}, api.ErrForm},
	} {
		if e := Check(c.f); e != c.e {
			t.Errorf("case %d: %d, not %d", i, e, c.e)
		}
	}
}

// TestCheckExamples are the chapter's examples of P5.1.
func TestCheckExamples(t *testing.T) {
	for i, c := range []struct {
		f []api.Node
		e int
	}{
		{[]api.Node{{Op: api.OpNot}}, api.ErrForm},
		{[]api.Node{{Op: api.OpFact, I: 8}}, api.ErrRange},
		{[]api.Node{{Op: api.OpTrue, I: 1}}, api.ErrForm},
		{[]api.Node{{Op: 22}}, api.ErrOp},
		{[]api.Node{{Op: api.OpFact}, {Op: api.OpEvery, G: 0}}, api.ErrRange},
	} {
		if e := Check(c.f); e != c.e {
			t.Errorf("example %d: %d, not %d", i, e, c.e)
		}
	}
}

// noFormulas returns lists that are no formulas.
func noFormulas() [][]api.Node {
	return [][]api.Node{
		nil, {}, {{}}, {{Op: 22}}, {{Op: api.OpNot}}, {{Op: api.OpFact, I: 8}}, {{Op: api.OpTrue, Y: 1}},
		slices.Repeat([]api.Node{{Op: api.OpTrue}}, 201), make([]api.Node, 5000),
		{{Op: 22}, {Op: api.OpTrue}}, {{Op: api.OpTrue}, {Op: api.OpKnow, I: 4}, {Op: api.OpTrue}},
		{{Op: api.OpAnd, X: math.MinInt, Y: math.MaxInt}},
	}
}
