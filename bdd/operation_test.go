package bdd_test

import (
	"math/rand/v2"
	"testing"

	"witting/api"
	"witting/bdd"
)

// TestNot is P11.1: all functions of few variables.
func TestNot(t *testing.T) {
	for vars := range 5 {
		for _, f := range all(vars) {
			want := functionOf(vars, func(v uint64) bool { return !f.at(v) })
			of(bdd.Not(canonical(f))).is(t, want, "Not of", f)
		}
	}
}

// TestCombinations is P11.1: And, Or and Xor of all pairs of functions of few variables.
func TestCombinations(t *testing.T) {
	for vars := range 4 {
		for _, f := range all(vars) {
			for _, g := range all(vars) {
				checkCombinations(t, f, g)
			}
		}
	}
}

func checkCombinations(t *testing.T, f, g truth) {
	t.Helper()
	for _, o := range operations() {
		want := functionOf(f.vars, func(v uint64) bool { return o.do(f.at(v), g.at(v)) })
		of(o.make(canonical(f), canonical(g))).is(t, want, o.name, f, g)
	}
}

// TestIte is P11.1: all triples of functions of few variables.
func TestIte(t *testing.T) {
	for vars := range 3 {
		for _, f := range all(vars) {
			for _, g := range all(vars) {
				for _, h := range all(vars) {
					checkIte(t, f, g, h)
				}
			}
		}
	}
}

func checkIte(t *testing.T, f, g, h truth) {
	t.Helper()
	want := functionOf(f.vars, func(v uint64) bool {
		if f.at(v) {
			return g.at(v)
		}
		return h.at(v)
	})
	of(bdd.Ite(canonical(f), canonical(g), canonical(h))).is(t, want, "Ite", f, g, h)
}

// TestRestrict is P11.1: all functions of few variables, each variable and value.
func TestRestrict(t *testing.T) {
	for vars := range 5 {
		for _, f := range all(vars) {
			checkRestrict(t, f)
		}
	}
}

func checkRestrict(t *testing.T, f truth) {
	t.Helper()
	for i := range f.vars {
		with := functionOf(f.vars, func(v uint64) bool { return f.at(v | 1<<i) })
		of(bdd.Restrict(canonical(f), i, true)).is(t, with, "Restrict", f, i, true)
		without := functionOf(f.vars, func(v uint64) bool { return f.at(v &^ (1 << i)) })
		of(bdd.Restrict(canonical(f), i, false)).is(t, without, "Restrict", f, i, false)
	}
}

// TestQuantifiers is P11.1: all functions of few variables, each set of variables.
func TestQuantifiers(t *testing.T) {
	for vars := range 4 {
		for _, f := range all(vars) {
			for set := range uint64(1) << vars {
				checkQuantifiers(t, f, set)
			}
		}
	}
}

func checkQuantifiers(t *testing.T, f truth, set uint64) {
	t.Helper()
	// trueAt counts the assignments with the same values outside of the set, and those of them at which f is true.
	trueAt := func(v uint64) (count, of int) {
		for w := range uint64(1) << f.vars {
			if w&^set == v&^set {
				of++
				if f.at(w) {
					count++
				}
			}
		}
		return count, of
	}
	exists := functionOf(f.vars, func(v uint64) bool { count, _ := trueAt(v); return count > 0 })
	of(bdd.Exists(canonical(f), set)).is(t, exists, "Exists", f, set)
	forall := functionOf(f.vars, func(v uint64) bool { count, of := trueAt(v); return count == of })
	of(bdd.Forall(canonical(f), set)).is(t, forall, "Forall", f, set)
}

// TestCompose is P11.1: all functions of few variables, also in the place of lower and of greater ones, and of one on which they depend.
func TestCompose(t *testing.T) {
	for vars := range 4 {
		for _, f := range all(vars) {
			for _, g := range all(vars) {
				checkCompose(t, f, g)
			}
		}
	}
}

func checkCompose(t *testing.T, f, g truth) {
	t.Helper()
	for i := range f.vars {
		want := functionOf(f.vars, func(v uint64) bool {
			if g.at(v) {
				return f.at(v | 1<<i)
			}
			return f.at(v &^ (1 << i))
		})
		of(bdd.Compose(canonical(f), i, canonical(g))).is(t, want, "Compose", f, i, g)
	}
}

// TestRandomOperations is P11.1: all operations on functions of more variables.
func TestRandomOperations(t *testing.T) {
	r := rand.New(rand.NewPCG(11, 2))
	for range 300 {
		vars := 3 + r.IntN(6)
		f, g, h := random(r, vars), random(r, vars), random(r, vars)
		of(bdd.Not(canonical(f))).is(t, functionOf(vars, func(v uint64) bool { return !f.at(v) }), "Not of", f)
		checkCombinations(t, f, g)
		checkIte(t, f, g, h)
		checkRestrict(t, f)
		checkQuantifiers(t, f, r.Uint64()&(1<<vars-1))
		checkQuantifiers(t, f, r.Uint64()&r.Uint64()&(1<<vars-1))
		checkCompose(t, f, g)
	}
}

// TestLaws is P11.2: the laws of boolean algebra are equalities of diagrams.
func TestLaws(t *testing.T) {
	r := rand.New(rand.NewPCG(11, 3))
	not := func(a api.Diagram) api.Diagram { return must(bdd.Not(a)) }
	and := func(a, b api.Diagram) api.Diagram { return must(bdd.And(a, b)) }
	or := func(a, b api.Diagram) api.Diagram { return must(bdd.Or(a, b)) }
	xor := func(a, b api.Diagram) api.Diagram { return must(bdd.Xor(a, b)) }
	for range 200 {
		vars := r.IntN(9)
		a, b, c := canonical(random(r, vars)), canonical(random(r, vars)), canonical(random(r, vars))
		no, yes := must(bdd.Const(vars, false)), must(bdd.Const(vars, true))
		for i, law := range [][2]api.Diagram{
			{and(a, b), and(b, a)}, {or(a, b), or(b, a)}, {and(a, and(b, c)), and(and(a, b), c)}, {or(a, or(b, c)), or(or(a, b), c)},
			{and(a, or(b, c)), or(and(a, b), and(a, c))}, {or(a, and(b, c)), and(or(a, b), or(a, c))}, {and(a, or(a, b)), a}, {or(a, and(a, b)), a},
			{not(not(a)), a}, {not(and(a, b)), or(not(a), not(b))}, {not(or(a, b)), and(not(a), not(b))}, {and(a, not(a)), no}, {or(a, not(a)), yes},
			{and(a, yes), a}, {and(a, no), no}, {or(a, no), a}, {or(a, yes), yes}, {and(a, a), a}, {or(a, a), a}, {xor(a, a), no}, {xor(a, no), a}, {xor(a, yes), not(a)},
			{xor(a, b), xor(b, a)}, {xor(a, xor(b, c)), xor(xor(a, b), c)}, {xor(a, b), and(or(a, b), not(and(a, b)))},
			{must(bdd.Ite(a, b, c)), or(and(a, b), and(not(a), c))}, {must(bdd.Ite(a, b, no)), and(a, b)}, {must(bdd.Ite(a, yes, b)), or(a, b)}, {must(bdd.Ite(a, no, yes)), not(a)},
		} {
			if !same(law[0], law[1]) {
				t.Fatalf("the law %d of %v, %v, %v: %v, %v", i, a, b, c, law[0], law[1])
			}
		}
	}
}

// TestErrors is P11.1: the errors of arguments, in their order.
func TestErrors(t *testing.T) {
	good, other := canonical(truth{3, "01101001"}), must(bdd.Const(2, true))
	one := map[string]func(d api.Diagram) (api.Diagram, int){
		"Not":      bdd.Not,
		"Restrict": func(d api.Diagram) (api.Diagram, int) { return bdd.Restrict(d, -1, true) },
		"Exists":   func(d api.Diagram) (api.Diagram, int) { return bdd.Exists(d, 1<<63) },
		"Forall":   func(d api.Diagram) (api.Diagram, int) { return bdd.Forall(d, 1<<63) },
	}
	two := map[string]func(a, b api.Diagram) (api.Diagram, int){
		"And": bdd.And, "Or": bdd.Or, "Xor": bdd.Xor,
		"Compose":    func(a, b api.Diagram) (api.Diagram, int) { return bdd.Compose(a, 0, b) },
		"no Compose": func(a, b api.Diagram) (api.Diagram, int) { return bdd.Compose(a, 9, b) },
		"Ite before": func(a, b api.Diagram) (api.Diagram, int) { return bdd.Ite(a, b, other) },
		"Ite after":  func(a, b api.Diagram) (api.Diagram, int) { return bdd.Ite(good, a, b) },
		"Ite around": func(a, b api.Diagram) (api.Diagram, int) { return bdd.Ite(a, good, b) },
	}
	worse := api.Diagram{Vars: 3, Nodes: make([]api.DiagramNode, 4097)}
	for want, l := range badDiagrams() {
		for _, d := range l {
			for name, f := range one {
				of(f(d)).fails(t, want, name, d)
			}
			for name, f := range two {
				of(f(d, good)).fails(t, want, name, d)
				of(f(d, worse)).fails(t, want, name, d)
				of(f(good, d)).fails(t, want, name, d)
				of(f(other, d)).fails(t, want, name, d)
			}
		}
	}
	for name, f := range two {
		of(f(good, other)).fails(t, api.ErrForm, name)
		of(f(other, good)).fails(t, api.ErrForm, name)
	}
}

// TestNoVariables is P11.1: numbers and sets of variables that do not exist.
func TestNoVariables(t *testing.T) {
	for vars := range 25 {
		for _, d := range []api.Diagram{must(bdd.Const(vars, true)), must(bdd.Var(max(vars, 1), 0))} {
			for _, i := range noVariables(d.Vars) {
				of(bdd.Restrict(d, i, true)).fails(t, api.ErrRange, "Restrict", d, i)
				of(bdd.Restrict(d, i, false)).fails(t, api.ErrRange, "Restrict", d, i)
				of(bdd.Compose(d, i, d)).fails(t, api.ErrRange, "Compose", d, i)
			}
			for _, set := range noSets(d.Vars) {
				of(bdd.Exists(d, set)).fails(t, api.ErrRange, "Exists", d, set)
				of(bdd.Forall(d, set)).fails(t, api.ErrRange, "Forall", d, set)
			}
			of(bdd.Exists(d, 1<<d.Vars-1)).is24(t, true)
			of(bdd.Forall(d, 1<<d.Vars-1)).is24(t, len(d.Nodes) == 0)
		}
	}
}

// is24 reports an error unless a result is a constant.
func (r result) is24(t *testing.T, value bool) {
	t.Helper()
	if r.e != api.OK || len(r.d.Nodes) != 0 || r.d.Root == 1 != value {
		t.Errorf("%v, %d, not the constant %t", r.d, r.e, value)
	}
}
