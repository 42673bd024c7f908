package rewrite

import (
	"math/rand/v2"
	"slices"
	"testing"

	"witting/api"
	"witting/formula"
)

// randomModel returns a model with two agents and three facts.
func randomModel(r *rand.Rand) api.Model {
	m := api.Model{Worlds: 1 + r.IntN(5)}
	set := func() uint64 { return r.Uint64N(1 << m.Worlds) }
	for range 3 {
		m.Val = append(m.Val, set())
	}
	for range 2 {
		var l []uint64
		for range m.Worlds {
			l = append(l, set())
		}
		m.Rel = append(m.Rel, l)
	}
	return m
}

// staticNodes returns nodes of the operators of static formulas.
func staticNodes() []api.Node {
	l := nodes()[:api.OpCommon]
	for agent := range 2 {
		l = append(l, api.Node{Op: api.OpKnow, I: agent}, api.Node{Op: api.OpPoss, I: agent}, api.Node{Op: api.OpEvery, G: 1 + agent})
	}
	// Agents and groups above the two of the models do not occur.
	return append(l, api.Node{Op: api.OpCommon, G: 2}, api.Node{Op: api.OpDist, G: 1})
}

// image returns the successors of a world: those that the agents of a group all have, or that one of them has.
func image(m api.Model, group, world int, all bool) uint64 {
	set := uint64(0)
	if all {
		set = 1<<m.Worlds - 1
	}
	for agent, l := range m.Rel {
		switch {
		case group>>agent&1 == 0:
		case all:
			set &= l[world]
		default:
			set |= l[world]
		}
	}
	return set
}

// inside returns the worlds all of whose successors are in a set.
func inside(m api.Model, group int, all bool, set uint64) uint64 {
	result := uint64(0)
	for w := range m.Worlds {
		if image(m, group, w, all)&^set == 0 {
			result |= 1 << w
		}
	}
	return result
}

// common returns the worlds from which every path of one or more steps to worlds of x, one after the other, ends in y.
func common(m api.Model, group int, x, y uint64) uint64 {
	good := uint64(1)<<m.Worlds - 1
	for range m.Worlds + 1 {
		good = inside(m, group, false, ^x|y&good)
	}
	return good
}

// truth returns the worlds of a model in which a static formula is true.
func truth(m api.Model, f []api.Node) uint64 {
	whole := uint64(1)<<m.Worlds - 1
	var sets []uint64
	for _, n := range f {
		var x, y, set uint64
		if len(sets) > 0 {
			x, y = sets[n.X], sets[n.Y]
		}
		switch n.Op {
		case api.OpTrue:
			set = whole
		case api.OpFalse:
		case api.OpFact:
			set = m.Val[n.I]
		case api.OpNot:
			set = ^x
		case api.OpAnd:
			set = x & y
		case api.OpOr:
			set = x | y
		case api.OpImp:
			set = ^x | y
		case api.OpIff:
			set = ^(x ^ y)
		case api.OpKnow:
			set = inside(m, 1<<n.I, false, x)
		case api.OpPoss:
			set = ^inside(m, 1<<n.I, false, ^x)
		case api.OpEvery:
			set = inside(m, n.G, false, x)
		case api.OpDist:
			set = inside(m, n.G, true, x)
		case api.OpCommon:
			set = common(m, n.G, x, y)
		}
		sets = append(sets, set&whole)
	}
	return sets[len(sets)-1]
}

// TestTruth is P8.2: Nnf, Simplify and Core are true at the same worlds, and Negate at the others.
func TestTruth(t *testing.T) {
	r := rand.New(rand.NewPCG(8, 2))
	mixed := 0
	for range 3000 {
		f := random(r, 1+r.IntN(15), staticNodes())
		m := randomModel(r)
		want := truth(m, f)
		if whole := uint64(1)<<m.Worlds - 1; want != 0 && want != whole {
			mixed++
		}
		for name, rewrite := range map[string]func(f []api.Node) ([]api.Node, int){"Nnf": Nnf, "Simplify": Simplify, "Core": Core} {
			if g, e := rewrite(f); e != api.OK || truth(m, g) != want {
				t.Fatalf("%s of %v is %v, %d: true at %b, not %b in %v", name, f, g, e, truth(m, g), want, m)
			}
		}
		if g, e := Negate(f); e != api.OK || truth(m, g) != want^(1<<m.Worlds-1) {
			t.Fatalf("Negate of %v is %v, %d", f, g, e)
		}
	}
	if mixed < 300 {
		t.Error("formulas that are true at some worlds only:", mixed)
	}
}

// TestForms is P8.2: what normal forms and formulas with few operators consist of, and what does not change any more.
func TestForms(t *testing.T) {
	r := rand.New(rand.NewPCG(8, 5))
	moved := []int{api.OpTrue, api.OpFalse, api.OpNot, api.OpAnd, api.OpOr, api.OpImp, api.OpIff, api.OpKnow, api.OpPoss}
	few := []int{api.OpFalse, api.OpFact, api.OpNot, api.OpAnd}
	facts := [][]api.Node{formula.Fact(0), formula.Fact(1), formula.Fact(2)}
	for range 3000 {
		f := random(r, 1+r.IntN(15), nodes())
		g, _ := Nnf(f)
		for _, n := range g {
			if n.Op == api.OpImp || n.Op == api.OpIff || n.Op == api.OpNot && slices.Contains(moved, g[n.X].Op) {
				t.Fatalf("Nnf of %v is %v", f, g)
			}
		}
		if h, e := Nnf(g); e != api.OK || !same(g, h) {
			t.Fatalf("Nnf of %v is %v", g, h)
		}
		g, _ = Core(f)
		for _, n := range g {
			if n.Op < api.OpKnow && !slices.Contains(few, n.Op) || n.Op == api.OpPoss {
				t.Fatalf("Core of %v is %v", f, g)
			}
		}
		g, _ = Simplify(f)
		if h, e := Simplify(g); e != api.OK || !same(g, h) || len(g) > formula.Size(f) {
			t.Fatalf("Simplify of %v is %v, and of that it is %v", f, g, h)
		}
		if g, e := Subst(f, facts); e != api.OK || !same(g, formula.Compact(f)) {
			t.Fatalf("Subst of %v is %v", f, g)
		}
	}
}
