package symset_test

import (
	"math/rand/v2"
	"slices"
	"testing"

	"witting/api"
	"witting/bdd"
	"witting/relation"
	"witting/symset"
)

// TestExamples are the chapter's examples.
func TestExamples(t *testing.T) {
	r, s := must(symset.Relation(2, []uint64{2, 4, 4, 0})), must(symset.Set(2, 4))
	of(symset.Pre(r, s)).isSet(t, 2, 6, "Pre")
	of(symset.Box(r, s)).isSet(t, 2, 14, "Box")
	of(symset.Image(r, s)).isSet(t, 2, 4, "Image")
	of(symset.Reach(r, must(symset.Set(2, 1)))).isSet(t, 2, 6, "Reach")
	of(symset.Converse(r)).isRelation(t, 2, []uint64{0, 1, 6, 0}, "Converse")
	of(symset.Paths(r, must(symset.Set(2, 15)), s)).isSet(t, 2, 14, "Paths")
	of(symset.Paths(r, must(symset.Set(2, 4)), s)).isSet(t, 2, 15, "Paths")
	of(symset.Set(1, 3)).equals(t, must(bdd.Const(2, true)))
	of(symset.Prime(must(symset.Set(1, 2)))).equals(t, must(bdd.Var(2, 1)))
	if s, e := symset.Members(must(bdd.Var(2, 1))); s != 0 || e != api.ErrArg {
		t.Error("Members of the variable 1:", s, e)
	}
	if s, e := symset.Members(must(bdd.Var(3, 0))); s != 0 || e != api.ErrForm {
		t.Error("Members with 3 variables:", s, e)
	}
}

// pathsOf is the chapter's definition: no path of states of the condition leads from v to a state outside of s.
func pathsOf(k int, words []uint64, condition, s uint64) uint64 {
	return where(k, func(v int) bool {
		ends := words[v] & condition
		for range words {
			for w, successors := range words {
				if has(ends, w) {
					ends |= successors & condition
				}
			}
		}
		return ends&^s == 0
	})
}

// check compares all functions with the chapter's definitions, and with layer 2, for a relation and sets.
func check(t *testing.T, k int, words []uint64, condition, s uint64) {
	t.Helper()
	r, set := must(symset.Relation(k, words)), must(symset.Set(k, s))
	of(symset.Prime(set)).isRelation(t, k, slices.Repeat([]uint64{s}, 1<<k), "Prime", s)
	image := where(k, func(w int) bool {
		return where(k, func(v int) bool { return has(s, v) && has(words[v], w) }) != 0
	})
	of(symset.Image(r, set)).isSet(t, k, image, "Image", words, s)
	of(symset.Pre(r, set)).isSet(t, k, where(k, func(v int) bool { return words[v]&s != 0 }), "Pre", words, s)
	of(symset.Pre(r, set)).isSet(t, k, relation.Diamond(words, s), "Pre and Diamond", words, s)
	of(symset.Box(r, set)).isSet(t, k, where(k, func(v int) bool { return words[v]&^s == 0 }), "Box", words, s)
	of(symset.Box(r, set)).isSet(t, k, relation.Box(words, s), "Box of both layers", words, s)
	converse := make([]uint64, 1<<k)
	for w := range converse {
		converse[w] = where(k, func(v int) bool { return has(words[v], w) })
	}
	of(symset.Converse(r)).isRelation(t, k, converse, "Converse", words)
	of(symset.Image(r, set)).isSet(t, k, relation.Diamond(converse, s), "Image and Diamond", words, s)
	of(symset.Reach(r, set)).isSet(t, k, relation.Reach(words, s), "Reach", words, s)
	paths := must(symset.Paths(r, must(symset.Set(k, condition)), set))
	of(paths, api.OK).isSet(t, k, pathsOf(k, words, condition, s), "Paths", words, condition, s)
}

// TestSmall is P12.3 to P12.5: relations between states with few bits, with all sets.
func TestSmall(t *testing.T) {
	for k := range 2 {
		for _, words := range allRelations(k) {
			for s := range states(k) + 1 {
				for condition := range states(k) + 1 {
					check(t, k, words, condition, s)
				}
			}
		}
	}
	for i, words := range allRelations(2) {
		if i%23 == 0 {
			check(t, 2, words, uint64(i/23%16), uint64(i/16/23%16))
		}
	}
}

// TestRandom is P12.3 to P12.5: states with more bits.
func TestRandom(t *testing.T) {
	r := rand.New(rand.NewPCG(12, 3))
	for k, count := range []int{10, 50, 300, 300, 100, 40, 15} {
		for range count {
			check(t, k, randomRelation(r, k), randomSet(r, k), randomSet(r, k))
		}
	}
}

// TestLongPaths is P12.4: fixed points that are far away.
func TestLongPaths(t *testing.T) {
	words := make([]uint64, 64)
	for v := range 63 {
		words[v] = 1 << (v + 1)
	}
	r := must(symset.Relation(6, words))
	all := states(6)
	of(symset.Reach(r, must(symset.Set(6, 1)))).isSet(t, 6, all-1, "Reach")
	of(symset.Reach(r, must(symset.Set(6, 1<<63)))).isSet(t, 6, 0, "Reach of the last state")
	paths := func(condition, s uint64) result {
		return of(symset.Paths(r, must(symset.Set(6, condition)), must(symset.Set(6, s))))
	}
	paths(all, all>>1).isSet(t, 6, 1<<63, "the last state is bad")
	paths(all, all).isSet(t, 6, all, "no state is bad")
	paths(all&^(1<<40), all>>1).isSet(t, 6, 1<<63|1<<40-1, "there is a gap")
	words[63] = 1
	r = must(symset.Relation(6, words))
	of(symset.Reach(r, must(symset.Set(6, 1<<30)))).isSet(t, 6, all, "Reach in a circle")
	paths(all, all&^(1<<30)).isSet(t, 6, 0, "a bad state in a circle")
	paths(0, 0).isSet(t, 6, all, "no path")
}

// TestGreatest is P12.5: the laws of Paths, and of the modal operations.
func TestGreatest(t *testing.T) {
	r := rand.New(rand.NewPCG(12, 4))
	for range 150 {
		k := r.IntN(4)
		steps := must(symset.Relation(k, randomRelation(r, k)))
		condition, s := must(symset.Set(k, randomSet(r, k))), must(symset.Set(k, randomSet(r, k)))
		step := func(x api.Diagram) api.Diagram {
			allowed := must(bdd.Or(must(bdd.Not(condition)), must(bdd.And(s, x))))
			return must(symset.Box(steps, allowed))
		}
		paths := must(symset.Paths(steps, condition, s))
		of(paths, api.OK).equals(t, step(paths), "Paths is no fixed point")
		for x := range states(k) + 1 {
			if k == 3 && x%5 != 0 {
				continue
			}
			d := must(symset.Set(k, x))
			if same(step(d), d) && !same(must(bdd.And(d, paths)), d) {
				t.Fatalf("%x is a fixed point, and not contained in Paths", x)
			}
		}
		no := must(bdd.Not(must(symset.Pre(steps, must(bdd.Not(s))))))
		of(symset.Box(steps, s)).equals(t, no, "Box and Pre")
		back := must(symset.Converse(steps))
		of(symset.Converse(back)).equals(t, steps, "Converse of Converse")
		of(symset.Image(back, s)).equals(t, must(symset.Pre(steps, s)), "Image of Converse")
		reached := must(symset.Reach(steps, s))
		of(symset.Image(steps, must(bdd.Or(s, reached)))).equals(t, reached, "Reach is no fixed point")
	}
}

// functions returns the functions of a relation and sets, by their names.
func functions() map[string]func(r, s api.Diagram) (api.Diagram, int) {
	return map[string]func(r, s api.Diagram) (api.Diagram, int){
		"Image": symset.Image, "Pre": symset.Pre, "Box": symset.Box, "Reach": symset.Reach,
		"Paths to":      func(r, s api.Diagram) (api.Diagram, int) { return symset.Paths(r, must(bdd.Const(4, true)), s) },
		"Paths through": func(r, s api.Diagram) (api.Diagram, int) { return symset.Paths(r, s, must(bdd.Const(4, true))) },
	}
}

// TestErrors is P12.3: the errors of arguments, in their order.
func TestErrors(t *testing.T) {
	good, worse := must(bdd.Var(4, 2)), api.Diagram{Vars: 4, Nodes: make([]api.DiagramNode, 4097)}
	others := []api.Diagram{must(bdd.Const(0, true)), must(bdd.Const(2, false)), must(bdd.Var(6, 4)), must(bdd.Var(24, 22))}
	for want, l := range notRelations() {
		for _, d := range l {
			of(symset.Converse(d)).fails(t, want, "Converse", d)
			for name, f := range functions() {
				of(f(d, good)).fails(t, want, name, d)
				of(f(d, worse)).fails(t, want, name, d)
			}
		}
	}
	for want, l := range notSets() {
		for _, d := range l {
			of(symset.Prime(d)).fails(t, want, "Prime", d)
			of(symset.Paths(good, d, worse)).fails(t, want, "Paths", d)
			of(symset.Paths(others[0], others[1], d)).fails(t, want, "Paths", d)
			for name, f := range functions() {
				of(f(good, d)).fails(t, want, name, d)
				of(f(others[3], d)).fails(t, want, name, d)
			}
		}
	}
	for _, d := range others {
		for name, f := range functions() {
			of(f(good, d)).fails(t, api.ErrForm, name, d)
			of(f(d, good)).fails(t, api.ErrForm, name, d)
		}
		of(symset.Paths(d, good, good)).fails(t, api.ErrForm, "Paths", d)
	}
}
