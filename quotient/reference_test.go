package quotient_test

import (
	"slices"

	"witting/api"
)

// agreeOnFacts reports whether the same facts are true at two worlds.
func agreeOnFacts(a api.Model, v int, b api.Model, w int) bool {
	for fact := range a.Val {
		if has(a.Val[fact], v) != has(b.Val[fact], w) {
			return false
		}
	}
	return true
}

// respectsFacts reports whether the worlds of each block agree on all facts.
func respectsFacts(m api.Model, p []int) bool {
	for v := range p {
		for w := range p {
			if p[v] == p[w] && !agreeOnFacts(m, v, m, w) {
				return false
			}
		}
	}
	return true
}

// numbersOf returns for each world how many blocks have a lower lowest world than its own block.
func numbersOf(p []int) []int {
	numbers := make([]int, len(p))
	for i, block := range p {
		for k, lowest := range p {
			if k == lowest && k < block {
				numbers[i]++
			}
		}
	}
	return numbers
}

// quotientOf is the chapter's definition, pair by pair.
func quotientOf(m api.Model, p []int) (api.Model, []int) {
	numbers := numbersOf(p)
	q := api.Model{Worlds: slices.Max(numbers) + 1, Val: make([]uint64, len(m.Val))}
	for fact, s := range m.Val {
		for w, number := range numbers {
			if has(s, w) {
				q.Val[fact] |= 1 << number
			}
		}
	}
	for _, r := range m.Rel {
		rows := make([]uint64, q.Worlds)
		for v := range numbers {
			for w := range numbers {
				if has(r[v], w) {
					rows[numbers[v]] |= 1 << numbers[w]
				}
			}
		}
		q.Rel = append(q.Rel, rows)
	}
	return q, numbers
}

// bisimilar returns for each world of a the worlds of b to which it is bisimilar: pairs that differ are taken out one by one.
func bisimilar(a, b api.Model) []uint64 {
	z := slices.Repeat([]uint64{worldsBelow(b.Worlds)}, a.Worlds)
	for changed := true; changed; {
		changed = false
		for v := range z {
			for w := range b.Worlds {
				if has(z[v], w) && !(agreeOnFacts(a, v, b, w) && agrees(a, v, b, w, z)) {
					z[v] &^= 1 << w
					changed = true
				}
			}
		}
	}
	return z
}

// agrees reports whether each successor of v is related to one of w, and the other way round.
func agrees(a api.Model, v int, b api.Model, w int, z []uint64) bool {
	for agent := range a.Rel {
		var met uint64
		for u := range a.Worlds {
			if !has(a.Rel[agent][v], u) {
				continue
			}
			if z[u]&b.Rel[agent][w] == 0 {
				return false
			}
			met |= z[u]
		}
		if b.Rel[agent][w]&^met != 0 {
			return false
		}
	}
	return true
}

// blocksOf returns the partition of the worlds into bisimilar ones.
func blocksOf(m api.Model) []int {
	p := make([]int, m.Worlds)
	for v, block := range bisimilar(m, m) {
		for !has(block, p[v]) {
			p[v]++
		}
	}
	return p
}

// reachable returns the worlds that can be reached from a world, in ascending order.
func reachable(m api.Model, world int) []int {
	l := []int{world}
	for i := 0; i < len(l); i++ {
		for _, r := range m.Rel {
			for v := range m.Worlds {
				if has(r[l[i]], v) && !slices.Contains(l, v) {
					l = append(l, v)
				}
			}
		}
	}
	slices.Sort(l)
	return l
}

// part returns the model of some worlds, in their order.
func part(m api.Model, worlds []int) api.Model {
	c := api.Model{Worlds: len(worlds)}
	for _, s := range m.Val {
		c.Val = append(c.Val, copies(worlds, s))
	}
	for _, r := range m.Rel {
		rows := []uint64{}
		for _, w := range worlds {
			rows = append(rows, copies(worlds, r[w]))
		}
		c.Rel = append(c.Rel, rows)
	}
	return c
}

// pointed is the chapter's definition of Pointed.
func pointed(m api.Model, world int) (api.Model, int) {
	worlds := reachable(m, world)
	c := part(m, worlds)
	q, numbers := quotientOf(c, blocksOf(c))
	return q, numbers[slices.Index(worlds, world)]
}
