package filter_test

import (
	"witting/api"
	"witting/formula"
)

// holdsAt reports whether a formula of the language holds at a world, by the definitions of layer 17.
func holdsAt(m api.Model, w int, f []api.Node) bool {
	n := f[len(f)-1]
	x := func(v int) bool { return holdsAt(m, v, f[:n.X+1]) }
	y := func(v int) bool { return holdsAt(m, v, f[:n.Y+1]) }
	switch n.Op {
	case api.OpTrue:
		return true
	case api.OpFact:
		return has(m.Val[n.I], w)
	case api.OpNot:
		return !x(w)
	case api.OpAnd:
		return x(w) && y(w)
	case api.OpOr:
		return x(w) || y(w)
	case api.OpImp:
		return !x(w) || y(w)
	case api.OpIff:
		return x(w) == y(w)
	case api.OpKnow:
		for v := range m.Worlds {
			if has(m.Rel[n.I][w], v) && !x(v) {
				return false
			}
		}
		return true
	case api.OpPoss:
		for v := range m.Worlds {
			if has(m.Rel[n.I][w], v) && x(v) {
				return true
			}
		}
	}
	return false
}

// truths returns for each subformula and each world whether it holds there.
func truths(m api.Model, f []api.Node) [][]bool {
	rows := [][]bool{}
	marked := api.Model{Worlds: m.Worlds, Rel: m.Rel}
	c := formula.Compact(f)
	for i, n := range c {
		// Operands are replaced by facts that are true where they are, so that no subformula is gone through twice.
		marked.Val = m.Val
		list := []api.Node{n}
		if count := operands(n.Op); count > 0 {
			marked.Val = []uint64{setOf(rows[n.X]), 0}
			n.X, list = 0, []api.Node{{Op: api.OpFact}, {Op: api.OpFact, I: 1}}
			if count > 1 {
				marked.Val[1] = setOf(rows[c[i].Y])
				n.Y = 1
			}
			list = append(list, n)
		}
		row := make([]bool, m.Worlds)
		for w := range row {
			row[w] = holdsAt(marked, w, list)
		}
		rows = append(rows, row)
	}
	return rows
}

func setOf(row []bool) uint64 {
	var s uint64
	for w, holds := range row {
		if holds {
			s |= 1 << w
		}
	}
	return s
}

// classesOf is the chapter's definition: for each world the lowest one that agrees with it.
func classesOf(m api.Model, f []api.Node) []int {
	rows := truths(m, f)
	p := make([]int, m.Worlds)
	for w := range p {
		for !agree(rows, p[w], w) {
			p[w]++
		}
	}
	return p
}

func agree(rows [][]bool, v, w int) bool {
	for _, row := range rows {
		if row[v] != row[w] {
			return false
		}
	}
	return true
}

// numbersOf returns for each world how many classes have a lower lowest world than its own class.
func numbersOf(p []int) ([]int, int) {
	numbers, count := make([]int, len(p)), 0
	for k, lowest := range p {
		if k != lowest {
			continue
		}
		count++
		for i, class := range p {
			if k < class {
				numbers[i]++
			}
		}
	}
	return numbers, count
}

// condition says whether a class leads to another one for an agent; classes are given by their lowest worlds, v and w.
type condition func(agent, v, w int) bool

// conditions returns the chapter's definitions of the relations of Smallest, Largest and Transitive.
func conditions(m api.Model, f []api.Node) []condition {
	p, rows, nodes := classesOf(m, f), truths(m, f), formula.Compact(f)
	smallest := func(agent, v, w int) bool {
		for x := range p {
			for y := range p {
				if p[x] == v && p[y] == w && has(m.Rel[agent][x], y) {
					return true
				}
			}
		}
		return false
	}
	largest := func(agent, v, w int) bool {
		for i, n := range nodes {
			if n.Op == api.OpKnow && n.I == agent && rows[i][v] && !rows[n.X][w] {
				return false
			}
			if n.Op == api.OpPoss && n.I == agent && rows[n.X][w] && !rows[i][v] {
				return false
			}
		}
		return true
	}
	transitive := func(agent, v, w int) bool {
		for i, n := range nodes {
			if n.Op == api.OpKnow && n.I == agent && rows[i][v] && !rows[i][w] {
				return false
			}
			if n.Op == api.OpPoss && n.I == agent && rows[i][w] && !rows[i][v] {
				return false
			}
		}
		return largest(agent, v, w)
	}
	return []condition{smallest, largest, transitive}
}

// filtrationOf is the chapter's definition of a model of classes, pair by pair.
func filtrationOf(m api.Model, f []api.Node, leads condition) (api.Model, []int) {
	p := classesOf(m, f)
	numbers, count := numbersOf(p)
	q := api.Model{Worlds: count, Val: make([]uint64, len(m.Val))}
	for _, n := range formula.Compact(f) {
		for w, number := range numbers {
			if n.Op == api.OpFact && has(m.Val[n.I], w) {
				q.Val[n.I] |= 1 << number
			}
		}
	}
	for agent := range m.Rel {
		rows := make([]uint64, count)
		for v := range p {
			for w := range p {
				if p[v] == v && p[w] == w && leads(agent, v, w) {
					rows[numbers[v]] |= 1 << numbers[w]
				}
			}
		}
		q.Rel = append(q.Rel, rows)
	}
	return q, numbers
}

// isTransitive reports whether all relations of a model are transitive, triple by triple.
func isTransitive(m api.Model) bool {
	for _, r := range m.Rel {
		for u := range r {
			for v := range r {
				if has(r[u], v) && r[v]&^r[u] != 0 {
					return false
				}
			}
		}
	}
	return true
}
