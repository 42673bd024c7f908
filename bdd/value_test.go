package bdd_test

import (
	"math"
	"math/bits"
	"math/rand/v2"
	"slices"
	"testing"

	"witting/api"
	"witting/bdd"
)

// TestExamples are the chapter's examples.
func TestExamples(t *testing.T) {
	d := must(bdd.And(must(bdd.Var(3, 0)), must(bdd.Var(3, 2))))
	if want := (api.Diagram{Vars: 3, Nodes: []api.DiagramNode{{Var: 2, Low: 0, High: 1}, {Var: 0, Low: 0, High: 2}}, Root: 3}); !same(d, want) {
		t.Error("And:", d)
	}
	if n, set := bdd.Count(d), bdd.Support(d); n != 2 || set != 5 {
		t.Error("Count, Support:", n, set)
	}
	if v, ok := bdd.Any(d); v != 5 || !ok {
		t.Error("Any:", v, ok)
	}
	if e := must(bdd.Exists(d, 1)); !same(e, must(bdd.Var(3, 2))) || !slices.Equal(e.Nodes, []api.DiagramNode{{Var: 2, Low: 0, High: 1}}) || e.Root != 2 {
		t.Error("Exists:", e)
	}
	if x := must(bdd.Xor(d, d)); len(x.Nodes) != 0 || x.Root != 0 {
		t.Error("Xor:", x)
	}
}

// TestValues is P11.1: Eval, Count, Support and Any of all functions of few variables.
func TestValues(t *testing.T) {
	for vars := range 5 {
		for _, f := range all(vars) {
			checkValues(t, f)
		}
	}
	r := rand.New(rand.NewPCG(11, 4))
	for range 100 {
		checkValues(t, random(r, 5+r.IntN(4)))
	}
}

func checkValues(t *testing.T, f truth) {
	t.Helper()
	d := canonical(f)
	count, support := 0, uint64(0)
	any, found := uint64(0), false
	for v := range uint64(1) << f.vars {
		if bdd.Eval(d, v) != f.at(v) || bdd.Eval(d, v|math.MaxUint64<<f.vars) != f.at(v) {
			t.Fatalf("Eval of %v at %b is not %t", f, v, f.at(v))
		}
		for i := range f.vars {
			if f.at(v) != f.at(v^1<<i) {
				support |= 1 << i
			}
		}
		if f.at(v) {
			count++
			// Any's order is that of the assignments with their bits turned round.
			if !found || bits.Reverse64(v) < bits.Reverse64(any) {
				any, found = v, true
			}
		}
	}
	if n := bdd.Count(d); n != count {
		t.Fatalf("Count of %v: %d, not %d", f, n, count)
	}
	if s := bdd.Support(d); s != support {
		t.Fatalf("Support of %v: %b, not %b", f, s, support)
	}
	if v, ok := bdd.Any(d); v != any || ok != found {
		t.Fatalf("Any of %v: %b, %t, not %b, %t", f, v, ok, any, found)
	}
}

// TestValuesOfInvalid is P11.1: what is returned for diagrams that are not valid.
func TestValuesOfInvalid(t *testing.T) {
	for _, l := range badDiagrams() {
		for _, d := range l {
			v, ok := bdd.Any(d)
			if bdd.Eval(d, 0) || bdd.Eval(d, math.MaxUint64) || bdd.Count(d) != 0 || bdd.Support(d) != 0 || v != 0 || ok {
				t.Errorf("%.100v: %t, %d, %d, %d, %t", d, bdd.Eval(d, 0), bdd.Count(d), bdd.Support(d), v, ok)
			}
		}
	}
}

// TestManyVariables is P11.1: functions of 24 variables.
func TestManyVariables(t *testing.T) {
	yes := must(bdd.Const(24, true))
	if n := bdd.Count(yes); n != 1<<24 {
		t.Error("true:", n)
	}
	parity := must(bdd.Const(24, false))
	for i := range 24 {
		if n := bdd.Count(variable(i)); n != 1<<23 {
			t.Error("a variable:", n)
		}
		parity = must(bdd.Xor(parity, variable(i)))
	}
	v, ok := bdd.Any(parity)
	if len(parity.Nodes) != 47 || bdd.Count(parity) != 1<<23 || bdd.Support(parity) != 1<<24-1 || v != 1<<23 || !ok {
		t.Error("parity:", parity, bdd.Count(parity), bdd.Support(parity), v, ok)
	}
	d := large()
	count := 1 << 24
	for range 11 {
		count = count / 4 * 3
	}
	v, ok = bdd.Any(d)
	if bdd.Count(d) != 1<<24-count || bdd.Support(d) != 1<<24-4 || v != 1<<12|1<<23 || !ok {
		t.Error("pairs:", bdd.Count(d), bdd.Support(d), v, ok)
	}
	r := rand.New(rand.NewPCG(11, 5))
	for range 300 {
		v := r.Uint64() & r.Uint64()
		want := v>>2&(v>>13)&(1<<11-1) != 0
		if bdd.Eval(d, v) != want || bdd.Eval(parity, v) != (bits.OnesCount64(v&(1<<24-1))%2 == 1) {
			t.Errorf("Eval at %b", v)
		}
	}
}

// TestMemory is the rule 'Values' of DOC.md: arguments stay as they are, with their spare capacity, and results share nothing.
func TestMemory(t *testing.T) {
	mark, wreck := api.DiagramNode{Var: 77, Low: 88, High: 99}, api.DiagramNode{Var: 5, Low: 6, High: 7}
	spare := func(f truth) api.Diagram {
		d := canonical(f)
		d.Nodes = append(d.Nodes, mark, mark, mark)[:len(d.Nodes)]
		return d
	}
	a, b, yes := spare(truth{3, "01101001"}), spare(truth{3, "00010111"}), spare(truth{3, "11111111"})
	kept := []api.Diagram{canonical(truth{3, "01101001"}), canonical(truth{3, "00010111"}), canonical(truth{3, "11111111"})}
	results := func() []api.Diagram {
		return []api.Diagram{
			must(bdd.Const(3, true)), must(bdd.Var(3, 1)), must(bdd.Not(a)), must(bdd.And(a, a)), must(bdd.And(a, yes)), must(bdd.And(yes, b)), must(bdd.Or(a, b)), must(bdd.Xor(a, b)),
			must(bdd.Ite(yes, a, b)), must(bdd.Ite(a, b, b)), must(bdd.Restrict(a, 1, true)), must(bdd.Exists(a, 0)), must(bdd.Forall(b, 0)), must(bdd.Exists(b, 2)), must(bdd.Compose(a, 0, b)),
		}
	}
	first, again := results(), results()
	for i, d := range first {
		memory := d.Nodes[:cap(d.Nodes)]
		for k := range memory {
			memory[k] = wreck
		}
		for k, argument := range []api.Diagram{a, b, yes} {
			full := argument.Nodes[:len(argument.Nodes)+3]
			if !same(argument, kept[k]) || !slices.Equal(full[len(argument.Nodes):], []api.DiagramNode{mark, mark, mark}) {
				t.Fatalf("the result %d changed an argument, or shares memory with it: %v", i, full)
			}
		}
	}
	for i, d := range results() {
		if !same(d, again[i]) || bdd.Check(again[i]) != api.OK {
			t.Errorf("the result %d shares memory with another one: %v", i, again[i])
		}
	}
}
