package boolean_test

import (
	"math/rand/v2"
	"slices"
	"testing"

	"witting/api"
	"witting/boolean"
)

// checkImplicants compares the prime implicants of a table.
func checkImplicants(t *testing.T, w uint64, n int, want []api.Cube) {
	t.Helper()
	if l, e := boolean.Implicants(w, n); e != api.OK || !slices.Equal(l, want) {
		t.Errorf("%x of %d facts: %v, %d, not %v", w, n, l, e, want)
	}
}

// TestImplicants is P9.5: tables of which the prime implicants are known.
func TestImplicants(t *testing.T) {
	for n := range 7 {
		checkImplicants(t, 0, n, nil)
		checkImplicants(t, full(n), n, []api.Cube{{}})
		for v := range size(n) {
			checkImplicants(t, 1<<v, n, []api.Cube{{Care: size(n) - 1, Value: v}})
		}
		for i := range n {
			column := uint64(0)
			for v := range size(n) {
				column |= uint64(v>>i&1) << v
			}
			checkImplicants(t, column, n, []api.Cube{{Care: 1 << i, Value: 1 << i}})
			checkImplicants(t, full(n)&^column, n, []api.Cube{{Care: 1 << i}})
		}
	}
	// Exactly one of two: nothing is merged. Two facts that are equal, or a third one: a cube that overlaps.
	checkImplicants(t, 6, 2, []api.Cube{{Care: 3, Value: 1}, {Care: 3, Value: 2}})
	checkImplicants(t, 0xf9, 3, []api.Cube{{Care: 3, Value: 0}, {Care: 3, Value: 3}, {Care: 4, Value: 4}})
	// p & q | ~p & r has the implicant q & r, too.
	checkImplicants(t, 0xd8, 3, []api.Cube{{Care: 3, Value: 3}, {Care: 5, Value: 4}, {Care: 6, Value: 6}})
}

// TestAllImplicants is P9.5 and P9.6: against the chapter's definition, and that the table is covered.
func TestAllImplicants(t *testing.T) {
	r := rand.New(rand.NewPCG(9, 5))
	for n := range 7 {
		for i, w := range tables(r, n) {
			if n > 4 && i > 100 {
				break
			}
			checkImplicants(t, w, n, implicantsOf(w, n))
			l, _ := boolean.Implicants(w, n)
			covered := uint64(0)
			for v := range size(n) {
				if slices.ContainsFunc(l, func(c api.Cube) bool { return v&c.Care == c.Value }) {
					covered |= 1 << v
				}
			}
			if covered != w {
				t.Errorf("%x of %d facts: covered is %x", w, n, covered)
			}
			if t.Failed() {
				t.FailNow()
			}
		}
	}
}
