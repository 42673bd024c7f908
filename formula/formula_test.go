package formula

import (
	"cmp"
	"slices"
	"strconv"
	"testing"

	"witting/api"
)

// same reports whether two lists have the same nodes.
func same(a, b []api.Node) bool {
	return slices.Equal(a, b)
}

// small returns all lists of 1 to n nodes of some operators.
func small(n int) [][]api.Node {
	all := [][]api.Node{}
	longest := [][]api.Node{nil}
	for range n {
		longer := [][]api.Node{}
		for _, f := range longest {
			for _, node := range someNodes(len(f)) {
				longer = append(longer, append(slices.Clone(f), node))
			}
		}
		all = append(all, longer...)
		longest = longer
	}
	return all
}

// someNodes returns nodes for an index.
func someNodes(index int) []api.Node {
	l := []api.Node{{Op: api.OpTrue}, {Op: api.OpFact}, {Op: api.OpFact, I: 1}}
	for x := range index {
		l = append(l, api.Node{Op: api.OpNot, X: x}, api.Node{Op: api.OpAct, I: 7, E: 6, X: x})
		for y := range index {
			l = append(l, api.Node{Op: api.OpAnd, X: x, Y: y}, api.Node{Op: api.OpCommon, G: 9, X: x, Y: y})
		}
	}
	return l
}

// tree is a formula without indices.
type tree struct {
	node     api.Node
	operands []tree
}

// treeOf returns the tree of a node.
func treeOf(f []api.Node, node int) tree {
	n := f[node]
	t := tree{node: api.Node{Op: n.Op, I: n.I, E: n.E, G: n.G}}
	for _, u := range uses() {
		if u.op == n.Op && slices.Contains([]rune(u.fields), 'X') {
			t.operands = append(t.operands, treeOf(f, n.X))
		}
		if u.op == n.Op && slices.Contains([]rune(u.fields), 'Y') {
			t.operands = append(t.operands, treeOf(f, n.Y))
		}
	}
	return t
}

// whole returns the tree of a formula.
func whole(f []api.Node) tree {
	return treeOf(f, len(f)-1)
}

// text returns a text that different trees do not share.
func (t tree) text() string {
	s := "(" + strconv.Itoa(t.node.Op) + " " + strconv.Itoa(t.node.I) + " " + strconv.Itoa(t.node.E) + " " + strconv.Itoa(t.node.G)
	for _, o := range t.operands {
		s += o.text()
	}
	return s + ")"
}

// list appends the subtrees that texts does not have yet, operands first, and returns the nodes.
func (t tree) list(f []api.Node, texts map[string]int) []api.Node {
	n := t.node
	for i, o := range t.operands {
		f = o.list(f, texts)
		if i == 0 {
			n.X = texts[o.text()]
		} else {
			n.Y = texts[o.text()]
		}
	}
	if _, found := texts[t.text()]; !found {
		texts[t.text()] = len(f)
		f = append(f, n)
	}
	return f
}

// canonicalOf returns the canonical list by way of trees.
func canonicalOf(f []api.Node) []api.Node {
	return whole(f).list(nil, map[string]int{})
}

// TestCompact is P5.2 and P5.6: the canonical list of each small formula, which is canonical itself.
func TestCompact(t *testing.T) {
	for _, f := range small(4) {
		c := Compact(f)
		if want := canonicalOf(f); !same(c, want) {
			t.Fatalf("Compact(%v) is %v, not %v", f, c, want)
		}
		if Size(f) != len(c) || Check(c) != api.OK || !same(Compact(c), c) || !Same(f, c) || Compare(f, c) != 0 {
			t.Fatalf("%v and its canonical list %v", f, c)
		}
	}
	for _, f := range noFormulas() {
		if len(Compact(f)) != 0 || Size(f) != 0 {
			t.Errorf("%v: %v, %d", f, Compact(f), Size(f))
		}
	}
}

// TestCompactLong is P5.2: walks through long lists, with nodes that are shared many times or not used.
func TestCompactLong(t *testing.T) {
	doubled := []api.Node{{Op: api.OpFact, I: 3}}
	for i := range 199 {
		doubled = append(doubled, api.Node{Op: api.OpAnd, X: i, Y: i})
	}
	if c := Compact(doubled); !same(c, doubled) || Size(doubled) != 200 || !Same(doubled, slices.Clone(doubled)) {
		t.Error("doubled", c)
	}
	twice := []api.Node{{Op: api.OpFact}}
	for i := range 99 {
		twice = append(twice, api.Node{Op: api.OpNot, X: i})
	}
	twice = append(twice, api.Node{Op: api.OpFact})
	for i := range 98 {
		twice = append(twice, api.Node{Op: api.OpNot, X: 100 + i})
	}
	twice = append(twice, api.Node{Op: api.OpOr, X: 198, Y: 99})
	c := Compact(twice)
	if want := append(slices.Clone(twice[:100]), api.Node{Op: api.OpOr, X: 98, Y: 99}); len(twice) != 200 || !same(c, want) {
		t.Error("twice", c)
	}
	unused := append(slices.Clone(doubled[:199]), api.Node{Op: api.OpFalse})
	if c := Compact(unused); !same(c, []api.Node{{Op: api.OpFalse}}) {
		t.Error("unused", c)
	}
}

// TestSame is P5.2: equality is that of trees.
func TestSame(t *testing.T) {
	l := small(3)
	var texts []string
	for _, f := range l {
		texts = append(texts, whole(f).text())
	}
	for i, f := range l {
		for j, g := range l {
			if Same(f, g) != (texts[i] == texts[j]) {
				t.Fatalf("Same(%v, %v) is %t", f, g, Same(f, g))
			}
		}
	}
	for _, f := range noFormulas() {
		for _, g := range append(noFormulas(), True()) {
			if Same(f, g) || Same(g, f) {
				t.Errorf("%v and %v", f, g)
			}
		}
	}
}

// order compares canonical lists by the chapter's words.
func order(a, b []api.Node) int {
	if len(a) != len(b) {
		return cmp.Compare(len(a), len(b))
	}
	for i := range a {
		m, n := a[i], b[i]
		for _, pair := range [][2]int{{m.Op, n.Op}, {m.I, n.I}, {m.E, n.E}, {m.G, n.G}, {m.X, n.X}, {m.Y, n.Y}} {
			if pair[0] != pair[1] {
				return cmp.Compare(pair[0], pair[1])
			}
		}
	}
	return 0
}

// TestCompare is P5.2 and P5.6: a linear order of canonical lists, with what is no formula before it.
func TestCompare(t *testing.T) {
	l := small(3)
	slices.SortStableFunc(l, func(f, g []api.Node) int { return order(canonicalOf(f), canonicalOf(g)) })
	for i, f := range l {
		for j, g := range l {
			want := cmp.Compare(i, j)
			if whole(f).text() == whole(g).text() {
				want = 0
			}
			if c := Compare(f, g); c != want {
				t.Fatalf("Compare(%v, %v) is %d", f, g, c)
			}
		}
	}
	for _, f := range noFormulas() {
		for _, g := range noFormulas() {
			if Compare(f, g) != 0 {
				t.Errorf("%v and %v", f, g)
			}
		}
		if Compare(f, True()) != -1 || Compare(True(), f) != 1 {
			t.Errorf("%v and true", f)
		}
	}
}

// TestCompareFields is P5.2: each field decides, in the order Op, I, E, G, X, Y, and the size before them.
func TestCompareFields(t *testing.T) {
	p, q := Fact(0), Fact(1)
	pq := And(p, q)
	ascending := [][]api.Node{
		True(), False(), p, q, Fact(7),
		Not(True()), Next(True()),
		Not(p), And(p, p), Know(0, p), Know(1, p), Every(1, p), Every(2, p), Act(0, 0, p), Act(0, 1, p), Act(1, 0, p),
		And(p, q), Common(1, p, q), Common(3, p, q),
		And(q, p),
		And(pq, p), And(pq, q), And(pq, pq), Or(p, pq), Or(pq, p), Or(pq, q), Or(q, pq),
	}
	for i, f := range ascending {
		for j, g := range ascending {
			if c, want := Compare(f, g), cmp.Compare(i, j); c != want {
				t.Errorf("Compare(%v, %v) is %d", f, g, c)
			}
		}
	}
}

// TestSub is P5.4: subformulas at nodes of any list, and those of the canonical list.
func TestSub(t *testing.T) {
	for _, f := range small(3) {
		for node := range f {
			if s, want := Sub(f, node), canonicalOf(f[:node+1]); !same(s, want) {
				t.Fatalf("Sub(%v, %d) is %v, not %v", f, node, s, want)
			}
		}
		c, subs := Compact(f), Subs(f)
		if len(subs) != len(c) {
			t.Fatalf("Subs(%v) has %d elements", f, len(subs))
		}
		for i, s := range subs {
			if !same(s, Sub(c, i)) || !same(s, canonicalOf(c[:i+1])) {
				t.Fatalf("Subs(%v) has %v at %d", f, s, i)
			}
		}
		for _, node := range []int{-1, len(f), len(f) + 1, -1 << 63, 1<<63 - 1} {
			if s := Sub(f, node); len(s) != 0 {
				t.Fatalf("Sub(%v, %d) is %v", f, node, s)
			}
		}
	}
	for _, f := range noFormulas() {
		if len(Subs(f)) != 0 || len(Sub(f, 0)) != 0 || len(Sub(f, 1)) != 0 || len(Sub(f, -1)) != 0 {
			t.Errorf("subformulas of %v", f)
		}
	}
}

// TestSubOfUnused is P5.4: a node that the whole formula does not use has a subformula, too.
func TestSubOfUnused(t *testing.T) {
	f := []api.Node{{Op: api.OpFact, I: 5}, {Op: api.OpTrue}, {Op: api.OpNot, X: 0}, {Op: api.OpFact}}
	if s := Sub(f, 2); !same(s, []api.Node{{Op: api.OpFact, I: 5}, {Op: api.OpNot, X: 0}}) {
		t.Error(s)
	}
	if l := Subs(f); len(l) != 1 || !same(l[0], Fact(0)) {
		t.Error(l)
	}
}

// TestExamples are the chapter's examples.
func TestExamples(t *testing.T) {
	f := []api.Node{
		{Op: api.OpFact, I: 1}, {Op: api.OpFact}, {Op: api.OpFact, I: 1},
		{Op: api.OpAnd, X: 0, Y: 1}, {Op: api.OpKnow, X: 3}, {Op: api.OpOr, X: 4, Y: 2},
	}
	want := []api.Node{
		{Op: api.OpFact, I: 1}, {Op: api.OpFact}, {Op: api.OpAnd, X: 0, Y: 1}, {Op: api.OpKnow, X: 2}, {Op: api.OpOr, X: 3, Y: 0},
	}
	if c := Compact(f); !same(c, want) {
		t.Error("Compact", c)
	}
	if Size(f) != 5 || Depth(f) != 1 || Frags(f) != api.FragKnow || Facts(f) != 3 || Agents(f) != 1 {
		t.Error(Size(f), Depth(f), Frags(f), Facts(f), Agents(f))
	}
	if s := Sub(f, 3); !same(s, want[:3]) {
		t.Error("Sub", s)
	}
	if g := Or(Know(0, And(Fact(1), Fact(0))), Fact(1)); !same(g, want) {
		t.Error("Or", g)
	}
}

// TestMemory is the rule 'Values': arguments stay as they are, with their spare capacity, and results share no memory.
func TestMemory(t *testing.T) {
	mark := api.Node{Op: 99}
	whole := []api.Node{{Op: api.OpFact}, {Op: api.OpFact, I: 1}, {Op: api.OpAnd, X: 0, Y: 1}, mark, mark}
	f, kept := whole[:3], slices.Clone(whole)
	results := [][]api.Node{Compact(f), Sub(f, 2), Sub(f, 0), Not(f), And(f, f), Common(1, f, f), Act(0, 0, f), All([][]api.Node{f}), Any([][]api.Node{f}), All([][]api.Node{f, f})}
	results = append(results, Subs(f)...)
	before := make([][]api.Node, len(results))
	for i, r := range results {
		before[i] = slices.Clone(r)
	}
	for i, r := range results {
		if !same(r, before[i]) {
			t.Errorf("result %d was changed by another one", i)
		}
		for j := range r[:cap(r)] {
			r[:cap(r)][j] = mark
		}
	}
	Same(f, f)
	Compare(f, f)
	Depth(f)
	Fits(f, 1, 1)
	if !same(whole, kept) {
		t.Error("the argument was changed:", whole)
	}
}

// listOf reads nodes from bytes, most of which are near to permitted ones.
func listOf(data []byte) []api.Node {
	var f []api.Node
	for len(data) >= 3 {
		op, x, y := int(data[0])%23, int(data[1]), int(data[2])
		n := api.Node{Op: op, X: x % (len(f) + 1), Y: y % (len(f) + 1)}
		switch op {
		case api.OpFact:
			n = api.Node{Op: op, I: x % 9}
		case api.OpNot, api.OpNext, api.OpPrev:
			n.Y = 0
		case api.OpKnow, api.OpPoss, api.OpSafe:
			n.Y, n.I = 0, y%5
		case api.OpEvery, api.OpDist:
			n.Y, n.G = 0, y%17
		case api.OpCommon:
			n.G = 3
		case api.OpAct:
			n.Y, n.I, n.E = 0, y%9, y/16%9
		}
		f, data = append(f, n), data[3:]
	}
	return f
}

// FuzzFormula is P1 of DOC.md and P5.6: any list has results, and a formula is equal to its canonical list.
func FuzzFormula(f *testing.F) {
	for _, text := range []string{"", "\x01\x00\x00", "\x03\x01\x00\x04\x00\x00\x09\x01\x01", "\x03\x00\x00\x03\x01\x00\x05\x00\x01\x0d\x02\x02\x11\x03\x21"} {
		f.Add([]byte(text))
	}
	f.Fuzz(func(t *testing.T, data []byte) {
		l := listOf(data)
		c := Compact(l)
		if ok := Check(l) == api.OK; ok != (len(c) > 0) || ok != (Depth(l) >= 0) || ok != Fits(l, 4, 8) || ok != Same(l, c) {
			t.Fatal(l, c)
		}
		if len(c) > 0 && (!same(Compact(c), c) || !same(Sub(l, len(l)-1), c) || Compare(l, c) != 0) {
			t.Fatal(l, c)
		}
		if s := And(l, c); len(s) > 0 && len(s) != len(c)+1 {
			t.Fatal(l, s)
		}
	})
}
