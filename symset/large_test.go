package symset_test

import (
	"math/rand/v2"
	"slices"
	"testing"

	"witting/api"
	"witting/bdd"
	"witting/symset"
)

// bit returns the set of the states with k bits of which one bit is set.
func bit(k, i int) api.Diagram {
	return must(bdd.Var(2*k, 2*i))
}

// nextBit returns the relation of the pairs whose next state has a bit.
func nextBit(k, i int) api.Diagram {
	return must(bdd.Var(2*k, 2*i+1))
}

// equivalent returns the diagram that is true where two ones have the same value.
func equivalent(a, b api.Diagram) api.Diagram {
	return must(bdd.Not(must(bdd.Xor(a, b))))
}

// conjunction returns the diagram that is true where all are.
func conjunction(vars int, l ...api.Diagram) api.Diagram {
	d := must(bdd.Const(vars, true))
	for _, x := range l {
		d = must(bdd.And(d, x))
	}
	return d
}

// sameStates returns the relation of each state to itself.
func sameStates(k int) api.Diagram {
	var l []api.Diagram
	for i := range k {
		l = append(l, equivalent(bit(k, i), nextBit(k, i)))
	}
	return conjunction(2*k, l...)
}

// shifted returns the relation of each state to those with its bits moved by one place, and any lowest bit.
func shifted(k int) api.Diagram {
	var l []api.Diagram
	for i := 1; i < k; i++ {
		l = append(l, equivalent(bit(k, i-1), nextBit(k, i)))
	}
	return conjunction(2*k, l...)
}

// counting returns the relation of each state to the next number, and of the last one to 0.
func counting(k int) api.Diagram {
	d := must(bdd.Const(2*k, true))
	carry := d
	for i := range k {
		d = must(bdd.And(d, equivalent(nextBit(k, i), must(bdd.Xor(bit(k, i), carry)))))
		carry = must(bdd.And(carry, bit(k, i)))
	}
	return d
}

// single returns the set of one state.
func single(k, v int) api.Diagram {
	d := must(bdd.Const(2*k, true))
	for i := range k {
		x := bit(k, i)
		if v>>i&1 == 0 {
			x = must(bdd.Not(x))
		}
		d = must(bdd.And(d, x))
	}
	return d
}

// TestManyBits is P12.3 and P12.4: relations between states with up to 12 bits.
func TestManyBits(t *testing.T) {
	for k := 1; k <= 12; k++ {
		yes, no, last := must(bdd.Const(2*k, true)), must(bdd.Const(2*k, false)), bit(k, k-1)
		some := must(bdd.Or(must(bdd.And(bit(k, 0), last)), single(k, 0)))
		for name, f := range map[string]func(r, s api.Diagram) (api.Diagram, int){"Image": symset.Image, "Pre": symset.Pre, "Box": symset.Box, "Reach": symset.Reach} {
			of(f(sameStates(k), some)).equals(t, some, name, "with itself as the next state", k)
		}
		of(symset.Converse(sameStates(k))).equals(t, sameStates(k), "Converse", k)
		of(symset.Paths(sameStates(k), last, some)).equals(t, must(bdd.Or(some, must(bdd.Not(last)))), "Paths", k)
		of(symset.Prime(some)).equals(t, must(bdd.Or(must(bdd.And(nextBit(k, 0), nextBit(k, k-1))), must(symset.Prime(single(k, 0))))), "Prime", k)

		r := shifted(k)
		of(symset.Image(r, single(k, 0))).equals(t, must(bdd.Or(single(k, 0), single(k, 1))), "Image", k)
		of(symset.Pre(r, single(k, 0))).equals(t, must(bdd.Or(single(k, 0), single(k, 1<<(k-1)))), "Pre", k)
		of(symset.Pre(r, bit(k, 0))).equals(t, yes, "Pre of what may be added", k)
		of(symset.Box(r, bit(k, 0))).equals(t, no, "Box of what may be added", k)
		of(symset.Reach(r, single(k, 0))).equals(t, yes, "Reach", k)
		of(symset.Reach(r, no)).equals(t, no, "Reach from nowhere", k)
		of(symset.Paths(r, yes, last)).equals(t, no, "Paths", k)
		var lower []api.Diagram
		for i := range k - 1 {
			lower = append(lower, bit(k, i))
			of(symset.Box(r, bit(k, i+1))).equals(t, bit(k, i), "Box", k, i)
			of(symset.Image(must(symset.Converse(r)), bit(k, i+1))).equals(t, bit(k, i), "Image of the converse", k, i)
		}
		of(symset.Paths(r, bit(k, 0), last)).equals(t, conjunction(2*k, lower...), "Paths where a bit is added each time", k)
	}
}

// TestCounting is P12.3 and P12.4: each number has one next number, and the steps lead through all of them.
func TestCounting(t *testing.T) {
	for k := 1; k <= 12; k++ {
		r := counting(k)
		back := must(symset.Converse(r))
		for _, v := range []int{0, 1, 1<<k/3 + 1, 1<<k - 1} {
			v, next := single(k, v), single(k, (v+1)%(1<<k))
			of(symset.Image(r, v)).equals(t, next, "Image", k)
			of(symset.Image(back, next)).equals(t, v, "Image of the converse", k)
			of(symset.Pre(r, next)).equals(t, v, "Pre", k)
			of(symset.Box(r, next)).equals(t, v, "Box", k)
			if k <= 9 {
				of(symset.Reach(r, v)).equals(t, must(bdd.Const(2*k, true)), "Reach", k)
				of(symset.Paths(r, must(bdd.Not(next)), next)).equals(t, v, "Paths to a state that ends none of them", k)
			}
		}
	}
}

// randomLarge returns a random set of states with k bits (first 0), or the pairs whose next state is in one (first 1).
func randomLarge(r *rand.Rand, k, first int) api.Diagram {
	d := must(bdd.Const(2*k, false))
	for range 3 * k {
		x := must(bdd.Const(2*k, true))
		for i := range k {
			v := must(bdd.Var(2*k, 2*i+first))
			switch r.IntN(4) {
			case 0:
				x = must(bdd.And(x, v))
			case 1:
				x = must(bdd.And(x, must(bdd.Not(v))))
			}
		}
		d = must(bdd.Xor(d, x))
	}
	return d
}

// TestLimit is the chapter's rule for ErrLimit: with more than 10 variables functions may return it, and are right otherwise. (TestRandom has the smaller ones.)
func TestLimit(t *testing.T) {
	r := rand.New(rand.NewPCG(12, 5))
	for k := 6; k <= 12; k++ {
		yes, no := must(bdd.Const(2*k, true)), must(bdd.Const(2*k, false))
		// Each of the two values of a function of the state has successors in each of two sets.
		from, s := randomLarge(r, k, 0), randomLarge(r, k, 0)
		steps, e := bdd.Xor(from, randomLarge(r, k, 1))
		if e == api.ErrLimit {
			steps = must(bdd.Xor(from, nextBit(k, 1)))
		}
		for name, x := range map[string]struct {
			got  result
			want api.Diagram
		}{
			"Image": {of(symset.Image(steps, s)), yes},
			"Pre":   {of(symset.Pre(steps, s)), yes},
			"Box":   {of(symset.Box(steps, s)), no},
			"Reach": {of(symset.Reach(steps, s)), yes},
			"Paths": {of(symset.Paths(steps, yes, s)), no},
		} {
			if x.got.e == api.ErrLimit {
				x.got.fails(t, api.ErrLimit, name, k)
				continue
			}
			x.got.equals(t, x.want, name, k)
		}
	}
}

// TestMemory is the rule 'Values' of DOC.md: arguments stay as they are, with their spare capacity, and results share nothing.
func TestMemory(t *testing.T) {
	mark, wreck := api.DiagramNode{Var: 77, Low: 88, High: 99}, api.DiagramNode{Var: 5, Low: 6, High: 7}
	spare := func(d api.Diagram) api.Diagram {
		d.Nodes = append(slices.Clone(d.Nodes), mark, mark, mark)[:len(d.Nodes)]
		return d
	}
	words := append([]uint64{2, 6, 12, 1}, 5, 5)[:4]
	kept := []api.Diagram{must(symset.Relation(2, words)), must(symset.Set(2, 6)), must(bdd.Const(4, true)), must(bdd.Const(0, true))}
	r, s, yes, point := spare(kept[0]), spare(kept[1]), spare(kept[2]), spare(kept[3])
	results := func() []api.Diagram {
		return []api.Diagram{
			must(symset.Set(2, 6)), must(symset.Relation(2, words)), must(symset.Prime(s)), must(symset.Image(r, s)), must(symset.Pre(r, s)), must(symset.Box(r, s)), must(symset.Converse(r)),
			must(symset.Converse(yes)), must(symset.Converse(point)), must(symset.Prime(point)), must(symset.Reach(point, point)), must(symset.Reach(r, s)), must(symset.Paths(r, yes, s)), must(symset.Paths(r, s, yes)), must(symset.Converse(s)),
		}
	}
	first, again, pairs := results(), results(), [2][]uint64{}
	for i := range pairs {
		pairs[i], _ = symset.Pairs(r)
	}
	pairs[0][0] = 99
	if !slices.Equal(words[:6], []uint64{2, 6, 12, 1, 5, 5}) || !slices.Equal(pairs[1], words) {
		t.Error("words:", words[:6], pairs)
	}
	for i, d := range first {
		memory := d.Nodes[:cap(d.Nodes)]
		for k := range memory {
			memory[k] = wreck
		}
		for k, argument := range []api.Diagram{r, s, yes, point} {
			full := argument.Nodes[:len(argument.Nodes)+3]
			if !same(argument, kept[k]) || !slices.Equal(full[len(argument.Nodes):], []api.DiagramNode{mark, mark, mark}) {
				t.Fatalf("the result %d changed an argument, or shares memory with it: %v", i, full)
			}
		}
	}
	for i, d := range results() {
		if !same(d, again[i]) || bdd.Check(again[i]) != api.OK {
			t.Errorf("the result %d shares memory with another one: %v", i, again[i])
		}
	}
}
