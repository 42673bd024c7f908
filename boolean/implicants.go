package boolean

import (
	"cmp"
	"slices"

	"witting/api"
)

// Implicants returns the prime implicants of a truth table of n facts.
func Implicants(t uint64, n int) ([]api.Cube, int) {
	if e := checkTable(t, n); e != api.OK {
		return nil, e
	}
	cubes := map[api.Cube]bool{}
	for v := range 1 << n {
		if t>>v&1 == 1 {
			cubes[api.Cube{Care: 1<<n - 1, Value: v}] = true
		}
	}
	var primes []api.Cube
	for len(cubes) > 0 {
		greater, alone := merge(cubes)
		primes = append(primes, alone...)
		cubes = greater
	}
	slices.SortFunc(primes, compareCubes)
	return primes, api.OK
}

// merge returns the cubes with one fact less in Care that consist of two of the given ones, and the given ones that are in none of them.
func merge(cubes map[api.Cube]bool) (greater map[api.Cube]bool, alone []api.Cube) {
	greater = map[api.Cube]bool{}
	for c := range cubes {
		merged := false
		for rest := c.Care; rest != 0; rest &= rest - 1 {
			fact := rest & -rest
			if cubes[api.Cube{Care: c.Care, Value: c.Value ^ fact}] {
				greater[api.Cube{Care: c.Care &^ fact, Value: c.Value &^ fact}] = true
				merged = true
			}
		}
		if !merged {
			alone = append(alone, c)
		}
	}
	return greater, alone
}

// compareCubes orders cubes by Care, then by Value.
func compareCubes(a, b api.Cube) int {
	return cmp.Or(cmp.Compare(a.Care, b.Care), cmp.Compare(a.Value, b.Value))
}
