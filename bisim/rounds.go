package bisim

import (
	"iter"
	"slices"
	"strconv"

	"witting/api"
	"witting/model"
	"witting/partition"
	"witting/worldset"
)

// rounds ranges over the partitions of the worlds of a valid model after 0 rounds, after one round and so on; the last one is the first that a further round does not change.
func rounds(m api.Model, relations [][]uint64) iter.Seq[[]int] {
	return func(yield func(p []int) bool) {
		whole, _ := partition.Trivial(m.Worlds)
		p, _ := partition.Split(whole, masks(m))
		for yield(p) {
			next, _ := partition.Split(p, keys(p, relations))
			if slices.Equal(next, p) {
				return
			}
			p = next
		}
	}
}

// masks returns for each world of a valid model the mask of its facts.
func masks(m api.Model) []int {
	l := make([]int, m.Worlds)
	for w := range l {
		l[w] = model.Facts(m, w)
	}
	return l
}

// keys returns for each world a number, which is the same for worlds from which each relation leads to the same blocks.
func keys(p []int, relations [][]uint64) []int {
	numbers := map[string]int{}
	l := make([]int, len(p))
	for w := range l {
		text := blocksFrom(w, p, relations)
		if _, known := numbers[text]; !known {
			numbers[text] = len(numbers)
		}
		l[w] = numbers[text]
	}
	return l
}

// blocksFrom says, for each relation, to which blocks it leads from a world.
func blocksFrom(w int, p []int, relations [][]uint64) string {
	var text []byte
	for _, r := range relations {
		// A block stands here as its lowest world.
		blocks, _ := worldset.Rename(r[w], p)
		text = strconv.AppendUint(text, blocks, 16)
		text = append(text, ' ')
	}
	return string(text)
}
