package bdd_test

import (
	"math"
	"math/rand/v2"
	"testing"

	"witting/api"
	"witting/bdd"
)

// TestCheck is P11.1: each error, in its order.
func TestCheck(t *testing.T) {
	for want, l := range badDiagrams() {
		for i, d := range l {
			if e := bdd.Check(d); e != want {
				t.Errorf("the diagram %d for the error %d: %d", i, want, e)
			}
		}
	}
	for vars := range 25 {
		for root := range 2 {
			if e := bdd.Check(api.Diagram{Vars: vars, Nodes: []api.DiagramNode{}, Root: root}); e != api.OK {
				t.Error("a constant of", vars, "variables:", e)
			}
		}
	}
}

// TestCheckOfSmall is P11.1: Check of all diagrams with few nodes, against the chapter's definition.
func TestCheckOfSmall(t *testing.T) {
	var nodes []api.DiagramNode
	for v := -1; v <= 2; v++ {
		for low := -1; low <= 4; low++ {
			for high := -1; high <= 4; high++ {
				nodes = append(nodes, api.DiagramNode{Var: v, Low: low, High: high})
			}
		}
	}
	found := map[int]int{}
	check := func(d api.Diagram) {
		want := errorOf(d)
		found[want]++
		if e := bdd.Check(d); e != want {
			t.Fatalf("%v: %d, not %d", d, e, want)
		}
	}
	for vars := -1; vars <= 3; vars++ {
		for root := -1; root <= 5; root++ {
			check(api.Diagram{Vars: vars, Root: root})
			for _, a := range nodes {
				check(api.Diagram{Vars: vars, Nodes: []api.DiagramNode{a}, Root: root})
				for _, b := range nodes {
					check(api.Diagram{Vars: vars, Nodes: []api.DiagramNode{a, b}, Root: root})
				}
			}
		}
	}
	for _, e := range []int{api.OK, api.ErrRange, api.ErrForm, api.ErrOrder, api.ErrExist, api.ErrState} {
		if found[e] < 10 {
			t.Error("diagrams with the result", e, "are few:", found[e])
		}
	}
}

// TestCheckOfCanonical is P11.1 and P11.2: the canonical diagrams are valid.
func TestCheckOfCanonical(t *testing.T) {
	for vars := range 5 {
		for _, f := range all(vars) {
			if d := canonical(f); bdd.Check(d) != api.OK {
				t.Fatal(d)
			}
		}
	}
	if d := large(); len(d.Nodes) != 4094 || bdd.Check(d) != api.OK {
		t.Error("a large diagram:", len(d.Nodes), bdd.Check(d))
	}
}

// TestCheckOfChanged is P11.1: canonical diagrams in which one number is changed, or two nodes have changed their places.
func TestCheckOfChanged(t *testing.T) {
	r := rand.New(rand.NewPCG(11, 1))
	found := map[int]int{}
	for range 20000 {
		d := canonical(random(r, 1+r.IntN(5)))
		number := func() int { return r.IntN(len(d.Nodes)+4) - 1 }
		if i, j := number(), number(); min(i, j) >= 0 && max(i, j) < len(d.Nodes) {
			node := &d.Nodes[i]
			switch r.IntN(6) {
			case 0:
				node.Var = r.IntN(7) - 1
			case 1:
				node.Low = number()
			case 2:
				node.High = number()
			case 3:
				*node = d.Nodes[j]
			case 4:
				swapNumbers(d, i, j)
			default:
				d.Root = number()
			}
		}
		want := errorOf(d)
		found[want]++
		if e := bdd.Check(d); e != want {
			t.Fatalf("%v: %d, not %d", d, e, want)
		}
	}
	for _, e := range []int{api.OK, api.ErrRange, api.ErrForm, api.ErrOrder, api.ErrExist, api.ErrState} {
		if found[e] < 100 {
			t.Error("diagrams with the result", e, "are few:", found[e])
		}
	}
}

// swapNumbers gives two nodes of a diagram the numbers of each other.
func swapNumbers(d api.Diagram, i, j int) {
	swapped := func(number int) int {
		switch number {
		case i + 2:
			return j + 2
		case j + 2:
			return i + 2
		}
		return number
	}
	d.Nodes[i], d.Nodes[j] = d.Nodes[j], d.Nodes[i]
	for k, node := range d.Nodes {
		d.Nodes[k] = api.DiagramNode{Var: node.Var, Low: swapped(node.Low), High: swapped(node.High)}
	}
}

// TestConstAndVar is P11.1.
func TestConstAndVar(t *testing.T) {
	for vars := range 25 {
		for _, value := range []bool{false, true} {
			d, e := bdd.Const(vars, value)
			if e != api.OK || d.Vars != vars || len(d.Nodes) != 0 || d.Root == 1 != value || d.Root > 1 {
				t.Errorf("Const(%d, %t): %v, %d", vars, value, d, e)
			}
		}
		for i := range vars {
			d, e := bdd.Var(vars, i)
			if e != api.OK || !same(d, api.Diagram{Vars: vars, Nodes: []api.DiagramNode{{Var: i, Low: 0, High: 1}}, Root: 2}) {
				t.Errorf("Var(%d, %d): %v, %d", vars, i, d, e)
			}
		}
		for _, i := range noVariables(vars) {
			if i != 24 || vars < 24 {
				of(bdd.Var(vars, i)).fails(t, api.ErrRange, "Var", vars, i)
			}
		}
	}
	for _, vars := range []int{-1, 25, 64, math.MaxInt, math.MinInt} {
		for _, value := range []bool{false, true} {
			of(bdd.Const(vars, value)).fails(t, api.ErrRange, "Const", vars)
		}
		for _, i := range []int{0, 1, -1, 24, vars, vars - 1} {
			of(bdd.Var(vars, i)).fails(t, api.ErrRange, "Var", vars, i)
		}
	}
}
