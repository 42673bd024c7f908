package bdd_test

import (
	"testing"

	"witting/api"
	"witting/bdd"
)

// hasNodes reports an error unless a result is valid, with a number of nodes.
func (r result) hasNodes(t *testing.T, count int, what ...any) {
	t.Helper()
	if r.e != api.OK || len(r.d.Nodes) != count || bdd.Check(r.d) != api.OK {
		t.Errorf("%v: %d nodes, %d, not %d nodes", what, len(r.d.Nodes), r.e, count)
	}
}

// TestLimit is P11.1: results with api.MaxDiagram nodes, and with one more.
func TestLimit(t *testing.T) {
	x, y, a := variable(0), variable(1), large()
	both, some := must(bdd.And(y, a)), must(bdd.Or(y, a))
	notX := must(bdd.Not(x))
	full := must(bdd.Ite(x, a, both))
	of(full, 0).hasNodes(t, 4096, "Ite")
	of(bdd.Not(full)).hasNodes(t, 4096, "Not")
	of(bdd.And(x, both)).hasNodes(t, 4096, "And")
	of(bdd.Or(x, both)).hasNodes(t, 4096, "Or")
	of(bdd.Xor(y, must(bdd.And(y, a)))).hasNodes(t, 4095, "Xor")
	of(bdd.Restrict(full, 0, false)).hasNodes(t, 4095, "Restrict")
	of(bdd.Exists(full, 2)).hasNodes(t, 4094, "Exists")
	of(bdd.Forall(full, 1)).hasNodes(t, 4095, "Forall")
	of(bdd.Compose(must(bdd.And(x, y)), 1, both)).hasNodes(t, 4096, "Compose")

	// The result is y and a where x is true, and y or a elsewhere: two nodes test y.
	of(bdd.Ite(x, both, some)).fails(t, api.ErrLimit, "Ite")
	of(bdd.Or(must(bdd.And(x, both)), must(bdd.And(notX, some)))).fails(t, api.ErrLimit, "Or")
	of(bdd.And(must(bdd.Or(notX, both)), must(bdd.Or(x, some)))).fails(t, api.ErrLimit, "And")
	of(bdd.Xor(x, a)).fails(t, api.ErrLimit, "Xor")
	of(bdd.Compose(must(bdd.Xor(x, y)), 0, a)).fails(t, api.ErrLimit, "Compose")
}

// TestLimitOfQuantifiers is P11.1: quantifiers with results that are too large.
func TestLimitOfQuantifiers(t *testing.T) {
	x, y := variable(0), variable(1)
	a, b, c := pairsOf(2, 3, 4, 5, 6), pairsOf(7, 8, 9, 10, 11, 12), pairsOf(7, 8, 9, 10, 11)
	// Where y is true some value of x makes all eleven pairs count, elsewhere ten of them.
	d := must(bdd.Ite(x, a, must(bdd.Ite(y, b, c))))
	of(bdd.Exists(d, 1)).fails(t, api.ErrLimit, "Exists")
	of(bdd.Forall(must(bdd.Not(d)), 1)).fails(t, api.ErrLimit, "Forall")
	of(bdd.Exists(d, 3)).hasNodes(t, 4094, "Exists of two variables")
	of(bdd.Forall(must(bdd.Not(d)), 3)).hasNodes(t, 4094, "Forall of two variables")
}

// TestLargeOnTheWay is P11.1: only the nodes of the result count.
func TestLargeOnTheWay(t *testing.T) {
	x, y, yes := variable(0), variable(1), must(bdd.Const(24, true))
	g, h := pairsOf(2, 3, 4, 5, 6), pairsOf(7, 8, 9, 10, 11, 12)
	notG := must(bdd.Not(g))
	// After one of the variables x and y, the other one chooses between g or h, and not g or h.
	d := must(bdd.Ite(x, must(bdd.Ite(y, notG, h)), must(bdd.Ite(y, h, g))))
	of(bdd.Exists(d, 1)).fails(t, api.ErrLimit, "Exists x")
	of(bdd.Exists(d, 2)).fails(t, api.ErrLimit, "Exists y")
	of(bdd.Exists(d, 3)).equals(t, yes, "Exists x and y")
	not := must(bdd.Not(d))
	of(bdd.Forall(not, 1)).fails(t, api.ErrLimit, "Forall x")
	of(bdd.Forall(not, 2)).fails(t, api.ErrLimit, "Forall y")
	of(bdd.Forall(not, 3)).equals(t, must(bdd.Not(yes)), "Forall x and y")

	// A conjunction with f is too large, but nothing depends on it in the end.
	f := must(bdd.Ite(x, g, notG))
	of(bdd.And(f, h)).fails(t, api.ErrLimit, "And")
	of(bdd.Ite(f, h, h)).equals(t, h, "Ite")
	of(bdd.Compose(h, 1, f)).equals(t, h, "Compose")
}

// equals reports an error unless a result is a diagram.
func (r result) equals(t *testing.T, d api.Diagram, what ...any) {
	t.Helper()
	if r.e != api.OK || !same(r.d, d) {
		t.Errorf("%v: %d nodes, root %d, %d", what, len(r.d.Nodes), r.d.Root, r.e)
	}
}
