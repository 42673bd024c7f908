package isomorph

import (
	"slices"

	"witting/api"
	"witting/model"
	"witting/worldset"
)

// ranks returns for each element of a list the number of different elements that come before it.
func ranks[T any](list []T, compare func(a, b T) int) []int {
	different := slices.SortedFunc(slices.Values(list), compare)
	different = slices.CompactFunc(different, func(a, b T) bool { return compare(a, b) == 0 })
	numbers := make([]int, len(list))
	for i, element := range list {
		numbers[i], _ = slices.BinarySearchFunc(different, element, compare)
	}
	return numbers
}

// compareTuples orders tuples by their first parts that differ.
func compareTuples(a, b [][]int) int {
	return slices.CompareFunc(a, b, slices.Compare[[]int])
}

// refine replaces the numbers of worlds, which are ranks, by the ranks of tuples until they do not become more.
// Each tuple consists of the number of a world and of the lists of the numbers that the relations lead to, each list in the form that arrange gives it.
func refine(numbers []int, relations [][]uint64, arrange func(list []int) []int) []int {
	for {
		tuples := make([][][]int, len(numbers))
		for w, number := range numbers {
			tuples[w] = [][]int{{number}}
			for _, r := range relations {
				tuples[w] = append(tuples[w], arrange(at(numbers, r[w])))
			}
		}
		next := ranks(tuples, compareTuples)
		// The old number stands first in a tuple, so ranks that are not more are the same ones.
		if slices.Equal(next, numbers) {
			return numbers
		}
		numbers = next
	}
}

// at returns the numbers of the worlds of a set.
func at(numbers []int, s uint64) []int {
	list := []int{}
	for _, w := range worldset.Members(s) {
		list = append(list, numbers[w])
	}
	return list
}

// counted returns a list in ascending order.
func counted(list []int) []int {
	return slices.Sorted(slices.Values(list))
}

// once returns the numbers of a list in ascending order, each once.
func once(list []int) []int {
	return slices.Compact(counted(list))
}

// masks returns for each world of a valid model the mask of its facts.
func masks(m api.Model) []int {
	l := make([]int, m.Worlds)
	for w := range l {
		l[w] = model.Facts(m, w)
	}
	return l
}
