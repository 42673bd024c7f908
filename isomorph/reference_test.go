package isomorph_test

import (
	"slices"

	"witting/api"
)

// A part of a tuple is a list of numbers; a number alone is a list of one.

// comesBefore reports whether a tuple comes before another one with as many parts, as the chapter says it.
func comesBefore(a, b [][]int) bool {
	for i := range a {
		for k := range a[i] {
			if k == len(b[i]) || a[i][k] > b[i][k] {
				return false
			}
			if a[i][k] < b[i][k] {
				return true
			}
		}
		if len(a[i]) < len(b[i]) {
			return true
		}
	}
	return false
}

// rankList returns for each tuple the number of different tuples that come before it.
func rankList(tuples [][][]int) []int {
	numbers := make([]int, len(tuples))
	for i, a := range tuples {
		before := [][][]int{}
		for _, b := range tuples {
			known := slices.ContainsFunc(before, func(c [][]int) bool { return !comesBefore(b, c) && !comesBefore(c, b) })
			if comesBefore(b, a) && !known {
				before = append(before, b)
			}
		}
		numbers[i] = len(before)
	}
	return numbers
}

// different returns how many numbers of a list are different.
func different(numbers []int) int {
	found := map[int]bool{}
	for _, n := range numbers {
		found[n] = true
	}
	return len(found)
}

// rounds returns the numbers after the rounds of the chapter, where lists returns the lists of worlds whose numbers are in the tuple of a world, as often as they occur or each once.
func rounds(start []int, lists func(w int) [][]int, eachOnce bool) []int {
	numbers := start
	for {
		tuples := [][][]int{}
		for w := range numbers {
			tuple := [][]int{{numbers[w]}}
			for _, worlds := range lists(w) {
				part := []int{}
				for _, v := range worlds {
					if !eachOnce || !slices.Contains(part, numbers[v]) {
						part = append(part, numbers[v])
					}
				}
				slices.Sort(part)
				tuple = append(tuple, part)
			}
			tuples = append(tuples, tuple)
		}
		next := rankList(tuples)
		if different(next) == different(numbers) {
			return next
		}
		numbers = next
	}
}

// maskOf returns the mask of the facts at a world.
func maskOf(m api.Model, w int) int {
	mask := 0
	for fact, s := range m.Val {
		if has(s, w) {
			mask |= 1 << fact
		}
	}
	return mask
}

// after returns the successors of a world for an agent.
func after(m api.Model, agent, w int) []int {
	l := []int{}
	for v := range m.Worlds {
		if has(m.Rel[agent][w], v) {
			l = append(l, v)
		}
	}
	return l
}

// before returns the worlds whose successor a world is for an agent.
func before(m api.Model, agent, w int) []int {
	l := []int{}
	for v := range m.Worlds {
		if has(m.Rel[agent][v], w) {
			l = append(l, v)
		}
	}
	return l
}

// colorsOf returns the colors of the chapter.
func colorsOf(m api.Model) []int {
	start := [][][]int{}
	for w := range m.Worlds {
		start = append(start, [][]int{{maskOf(m, w)}})
	}
	return rounds(rankList(start), func(w int) [][]int {
		l := [][]int{}
		for agent := range m.Rel {
			l = append(l, after(m, agent, w))
		}
		for agent := range m.Rel {
			l = append(l, before(m, agent, w))
		}
		return l
	}, false)
}

// reachable returns the worlds that can be reached from a world, in ascending order.
func reachable(m api.Model, world int) []int {
	l := []int{world}
	for i := 0; i < len(l); i++ {
		for agent := range m.Rel {
			for _, v := range after(m, agent, l[i]) {
				if !slices.Contains(l, v) {
					l = append(l, v)
				}
			}
		}
	}
	slices.Sort(l)
	return l
}

// numbersFrom returns the worlds that can be reached from a world, and their canonical numbers.
func numbersFrom(m api.Model, world int) (worlds, numbers []int) {
	worlds = reachable(m, world)
	start := [][][]int{}
	for _, w := range worlds {
		first := 1
		if w == world {
			first = 0
		}
		start = append(start, [][]int{{first}, {maskOf(m, w)}})
	}
	numbers = rounds(rankList(start), func(i int) [][]int {
		l := [][]int{}
		for agent := range m.Rel {
			places := []int{}
			for _, v := range after(m, agent, worlds[i]) {
				places = append(places, slices.Index(worlds, v))
			}
			l = append(l, places)
		}
		return l
	}, true)
	return worlds, numbers
}

// canonicalFrom returns the model of the worlds that can be reached from a world, each with its canonical number, and these worlds in the order of the numbers.
func canonicalFrom(m api.Model, world int) (api.Model, []int) {
	worlds, numbers := numbersFrom(m, world)
	order := make([]int, len(worlds))
	for i, number := range numbers {
		order[number] = worlds[i]
	}
	c := api.Model{Worlds: len(order), Val: make([]uint64, len(m.Val)), Rel: make([][]uint64, len(m.Rel))}
	for i, w := range order {
		for fact := range m.Val {
			if has(m.Val[fact], w) {
				c.Val[fact] |= 1 << i
			}
		}
		for agent := range m.Rel {
			var s uint64
			for _, v := range after(m, agent, w) {
				s |= 1 << slices.Index(order, v)
			}
			c.Rel[agent] = append(c.Rel[agent], s)
		}
	}
	return c, order
}

// bisimilar returns for each world of a the worlds of b to which it is bisimilar: what is left if worlds that differ are taken out one by one.
func bisimilar(a, b api.Model) []uint64 {
	z := make([]uint64, a.Worlds)
	for v := range z {
		for w := range b.Worlds {
			if maskOf(a, v) == maskOf(b, w) {
				z[v] |= 1 << w
			}
		}
	}
	for changed := true; changed; {
		changed = false
		for v := range z {
			for w := range b.Worlds {
				if has(z[v], w) && !agrees(a, v, b, w, z) {
					z[v] &^= 1 << w
					changed = true
				}
			}
		}
	}
	return z
}

// agrees reports whether each successor of v is related to one of w, and the other way round.
func agrees(a api.Model, v int, b api.Model, w int, z []uint64) bool {
	for agent := range a.Rel {
		var met uint64
		for _, u := range after(a, agent, v) {
			if z[u]&b.Rel[agent][w] == 0 {
				return false
			}
			met |= z[u]
		}
		if b.Rel[agent][w]&^met != 0 {
			return false
		}
	}
	return true
}

// hasTwins reports whether two worlds of a list are related.
func hasTwins(z []uint64, worlds []int) bool {
	for _, v := range worlds {
		for _, w := range worlds {
			if v != w && has(z[v], w) {
				return true
			}
		}
	}
	return false
}
