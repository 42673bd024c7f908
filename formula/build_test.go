package formula

import (
	"math"
	"slices"
	"testing"

	"witting/api"
)

// anew builds the formula of a node with operands by the constructor of its operator.
func anew(n api.Node, x, y []api.Node) []api.Node {
	switch n.Op {
	case api.OpTrue:
		return True()
	case api.OpFalse:
		return False()
	case api.OpFact:
		return Fact(n.I)
	case api.OpNot:
		return Not(x)
	case api.OpAnd:
		return And(x, y)
	case api.OpOr:
		return Or(x, y)
	case api.OpImp:
		return Imp(x, y)
	case api.OpIff:
		return Iff(x, y)
	case api.OpKnow:
		return Know(n.I, x)
	case api.OpPoss:
		return Poss(n.I, x)
	}
	return anewLater(n, x, y)
}

// anewLater is anew for the operators from OpEvery on.
func anewLater(n api.Node, x, y []api.Node) []api.Node {
	switch n.Op {
	case api.OpEvery:
		return Every(n.G, x)
	case api.OpDist:
		return Dist(n.G, x)
	case api.OpCommon:
		return Common(n.G, x, y)
	case api.OpBelief:
		return Belief(n.I, x, y)
	case api.OpSafe:
		return Safe(n.I, x)
	case api.OpAnnounce:
		return Announce(x, y)
	case api.OpAct:
		return Act(n.I, n.E, x)
	case api.OpNext:
		return Next(x)
	case api.OpUntil:
		return Until(x, y)
	case api.OpPrev:
		return Prev(x)
	case api.OpSince:
		return Since(x, y)
	}
	return nil
}

// TestConstructors is P5.5: each constructor, with X and Y in their places.
func TestConstructors(t *testing.T) {
	x, y := Not(Fact(1)), Fact(0)
	for _, u := range uses() {
		for _, field := range u.fields {
			for _, v := range values(u, field) {
				if field == 'X' || field == 'Y' {
					continue
				}
				n := set(good(u), field, v)
				checkBuilt(t, n, u, x, y)
			}
		}
		checkBuilt(t, good(u), u, x, y)
	}
}

// checkBuilt compares a built formula with the list of its operands and the node.
func checkBuilt(t *testing.T, n api.Node, u use, x, y []api.Node) {
	t.Helper()
	var want []api.Node
	n.X, n.Y = 0, 0
	if slices.Contains([]rune(u.fields), 'X') {
		want = append(want, x...)
		n.X = 1
	}
	if slices.Contains([]rune(u.fields), 'Y') {
		want = append(want, y...)
		n.Y = 2
	}
	want = append(want, n)
	if f := anew(n, x, y); !same(f, want) || Check(f) != api.OK {
		t.Errorf("%v: %v, not %v", n, f, want)
	}
}

// TestConstructorRanges is P5.5: numbers that are out of range.
func TestConstructorRanges(t *testing.T) {
	for _, u := range uses() {
		for _, field := range u.fields {
			for _, v := range []int{math.MinInt, -1, 0, 1, 3, 4, 7, 8, 15, 16, 17, math.MaxInt} {
				if field == 'X' || field == 'Y' {
					continue
				}
				f := anew(set(good(u), field, v), True(), True())
				if built := len(f) > 0; built != slices.Contains(values(u, field), v) {
					t.Errorf("operator %d with %c %d: %v", u.op, field, v, f)
				}
			}
		}
	}
}

// TestConstructorOperands is P5.5: operands that are no formulas.
func TestConstructorOperands(t *testing.T) {
	for _, u := range uses() {
		for _, f := range noFormulas() {
			for _, field := range u.fields {
				if field == 'X' && len(anew(good(u), f, True())) != 0 || field == 'Y' && len(anew(good(u), True(), f)) != 0 {
					t.Errorf("operator %d with %c %v", u.op, field, f)
				}
			}
		}
	}
}

// chain returns a formula of n nodes: negations before a fact.
func chain(fact, n int) []api.Node {
	f := []api.Node{{Op: api.OpFact, I: fact}}
	for i := range n - 1 {
		f = append(f, api.Node{Op: api.OpNot, X: i})
	}
	return f
}

// TestConstructorLimit is P5.5: the nodes of the canonical list of the result count.
func TestConstructorLimit(t *testing.T) {
	padded := append(slices.Repeat([]api.Node{{Op: api.OpTrue}}, 199), api.Node{Op: api.OpFact})
	for i, c := range []struct {
		f    []api.Node
		size int
	}{
		{Not(chain(0, 199)), 200}, {Not(chain(0, 200)), 0}, {Know(3, chain(0, 199)), 200}, {Act(1, 1, chain(0, 200)), 0},
		{And(chain(0, 100), chain(1, 99)), 200}, {And(chain(0, 100), chain(1, 100)), 0},
		{Or(chain(0, 199), chain(0, 199)), 200}, {Or(chain(0, 199), chain(0, 20)), 200}, {Or(chain(0, 20), chain(0, 199)), 200},
		{Or(chain(0, 200), chain(0, 200)), 0}, {Or(chain(0, 199), Fact(1)), 0},
		{And(padded, padded), 2}, {Since(padded, chain(0, 199)), 200}, {Belief(0, chain(1, 199), padded), 0},
		{Common(5, chain(0, 198), Fact(1)), 200},
	} {
		if len(c.f) != c.size || c.size > 0 && Check(c.f) != api.OK {
			t.Errorf("case %d: %d nodes, not %d", i, len(c.f), c.size)
		}
	}
}

// TestBuiltAnew is P5.6: each subformula is equal to itself built anew from its parts.
func TestBuiltAnew(t *testing.T) {
	for _, f := range small(3) {
		subs := Subs(f)
		for i, n := range Compact(f) {
			if g := anew(n, subs[n.X], subs[n.Y]); !same(g, subs[i]) {
				t.Fatalf("%v: %v, not %v", f, g, subs[i])
			}
		}
	}
	for _, u := range uses() {
		f := behind(good(u))
		subs := Subs(f)
		last := Compact(f)[len(subs)-1]
		if g := anew(last, subs[last.X], subs[last.Y]); !same(g, Compact(f)) {
			t.Errorf("%v: %v", f, g)
		}
	}
}

// TestJoins is P5.5: All and Any of several formulas, of one and of none.
func TestJoins(t *testing.T) {
	p, q, r := Fact(0), Fact(1), Know(2, Fact(0))
	loose := []api.Node{{Op: api.OpTrue}, {Op: api.OpFact, I: 1}}
	for i, c := range []struct {
		l        [][]api.Node
		all, any []api.Node
	}{
		{nil, True(), False()},
		{[][]api.Node{}, True(), False()},
		{[][]api.Node{p}, p, p},
		{[][]api.Node{loose}, q, q},
		{[][]api.Node{p, q}, And(p, q), Or(p, q)},
		{[][]api.Node{p, loose, r}, And(And(p, q), r), Or(Or(p, q), r)},
		{[][]api.Node{r, r, r, p}, And(And(And(r, r), r), p), Or(Or(Or(r, r), r), p)},
		{[][]api.Node{nil}, nil, nil},
		{[][]api.Node{p, nil}, nil, nil},
		{[][]api.Node{nil, p}, nil, nil},
		{[][]api.Node{p, {{Op: 22}}, q}, nil, nil},
		{[][]api.Node{chain(0, 100), chain(1, 98), True()}, nil, nil},
		{[][]api.Node{chain(0, 100), chain(1, 98), p}, And(And(chain(0, 100), chain(1, 98)), p), Or(Or(chain(0, 100), chain(1, 98)), p)},
		{slices.Repeat([][]api.Node{p}, 200), All(slices.Repeat([][]api.Node{p}, 200)), Any(slices.Repeat([][]api.Node{p}, 200))},
		{slices.Repeat([][]api.Node{p}, 201), nil, nil},
		{slices.Repeat([][]api.Node{p}, 5000), nil, nil},
		{append(slices.Repeat([][]api.Node{p}, 150), chain(0, 200)), nil, nil},
	} {
		if all, any := All(c.l), Any(c.l); !same(all, c.all) || !same(any, c.any) {
			t.Errorf("case %d: %v, %v", i, all, any)
		}
	}
	if f := All(slices.Repeat([][]api.Node{p}, 200)); len(f) != 200 || Check(f) != api.OK {
		t.Error("a long conjunction has the size", len(f))
	}
}
