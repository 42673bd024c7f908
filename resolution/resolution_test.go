package resolution_test

import (
	"math"
	"math/rand/v2"
	"slices"
	"testing"

	"witting/api"
	"witting/boolean"
	"witting/formula"
	"witting/resolution"
)

// same reports whether two lists have the same clauses.
func same(l, k [][]int) bool {
	return slices.EqualFunc(l, k, slices.Equal[[]int])
}

// TestExamples are the chapter's examples.
func TestExamples(t *testing.T) {
	if c, always, e := resolution.Normal([]int{2, -1, 2}); !slices.Equal(c, []int{-1, 2}) || always || e != api.OK {
		t.Error("Normal of 2 -1 2:", c, always, e)
	}
	if c, always, e := resolution.Normal([]int{1, -1}); len(c) != 0 || !always || e != api.OK {
		t.Error("Normal of 1 -1:", c, always, e)
	}
	three := [][]int{{1, 2}, {-1, 2}, {1, -2}}
	if v, e := resolution.Solve(2, three); v != 3 || e != api.OK {
		t.Error("Solve:", v, e)
	}
	if count, e := resolution.Models(2, three); count != 1 || e != api.OK {
		t.Error("Models:", count, e)
	}
	if c, conflict, e := resolution.Propagate(2, three, []int{-1}); !slices.Equal(c, []int{-1, 2}) || conflict != 2 || e != api.OK {
		t.Error("Propagate:", c, conflict, e)
	}
	if c, e := resolution.Resolve([]int{1, 2}, []int{-1, -2}, 0); len(c) != 0 || e != api.ErrOp {
		t.Error("Resolve:", c, e)
	}
	if l, e := resolution.Clauses(formula.And(formula.Fact(0), formula.Fact(1)), 2); !same(l, three) || e != api.OK {
		t.Error("Clauses:", l, e)
	}
	if e := resolution.Verify(2, append(three, []int{-1, -2}), example()); e != api.OK {
		t.Error("Verify:", e)
	}
}

// TestCheck is P10.1: clauses that are permitted, up to the limits.
func TestCheck(t *testing.T) {
	for _, p := range problems() {
		if !p.checked() {
			t.Errorf("%d variables: %v", p.n, p.l)
		}
	}
	for n := range 13 {
		for _, c := range allClauses(min(n, 4)) {
			if e := resolution.Check(n, slices.Repeat([][]int{c}, 64)); e != api.OK {
				t.Errorf("%d variables, %v 64 times: %d", n, c, e)
			}
		}
	}
}

// TestCheckErrors is P10.1 and P10.2: the errors of Check in their order, also for the functions that return them first.
func TestCheckErrors(t *testing.T) {
	for want, l := range badArguments() {
		for _, p := range l {
			if e := resolution.Check(p.n, p.l); e != want {
				t.Fatalf("Check of %d variables and %.20v: %d, not %d", p.n, p.l, e, want)
			}
			is, e1 := resolution.Holds(p.n, p.l, -1)
			count, e2 := resolution.Models(p.n, p.l)
			v, e3 := resolution.Solve(p.n, p.l)
			c, conflict, e4 := resolution.Propagate(p.n, p.l, []int{0})
			lines, e5 := resolution.Refute(p.n, p.l)
			e6 := resolution.Verify(p.n, p.l, []api.Resolvent{{Left: -1, Right: -1}})
			if is || count != 0 || v != 0 || len(c) != 0 || conflict != 0 || len(lines) != 0 {
				t.Fatalf("%d variables and %.20v: %t, %d, %d, %v, %d, %v", p.n, p.l, is, count, v, c, conflict, lines)
			}
			for i, e := range []int{e1, e2, e3, e4, e5, e6} {
				if e != want {
					t.Fatalf("function %d of %d variables and %.20v: %d, not %d", i, p.n, p.l, e, want)
				}
			}
		}
	}
}

// TestNormal is P10.1: all short lists, in any order and with repetitions, and random ones of up to 64 literals.
func TestNormal(t *testing.T) {
	r := rand.New(rand.NewPCG(10, 2))
	l := [][]int{nil, {}}
	literals := []int{1, -1, 2, -2, 12, -12}
	for _, a := range literals {
		l = append(l, []int{a})
		for _, b := range literals {
			l = append(l, []int{a, b})
			for _, c := range literals {
				l = append(l, []int{a, b, c}, []int{c, a, a, b, c, c})
			}
		}
	}
	for i := range 2000 {
		signs := r.IntN(1 << 12)
		c := make([]int, r.IntN(65))
		for i := range c {
			v := r.IntN(12)
			c[i] = (v + 1) * (1 - 2*(signs>>v&1))
		}
		if i%3 == 0 && len(c) > 0 {
			c[r.IntN(len(c))] *= -1
		}
		l = append(l, c)
	}
	for _, c := range l {
		want := ascending(c)
		opposite := slices.ContainsFunc(c, func(literal int) bool { return slices.Contains(c, -literal) })
		if opposite {
			want = nil
		}
		if got, always, e := resolution.Normal(c); !slices.Equal(got, want) || always != opposite || e != api.OK {
			t.Fatalf("%v: %v, %t, %d", c, got, always, e)
		}
	}
}

// TestNormalErrors is P10.1: the limit first, then the ranges, also of what is always true.
func TestNormalErrors(t *testing.T) {
	for want, l := range map[int][][]int{
		api.OK:       {slices.Repeat([]int{3}, 64), slices.Repeat([]int{-12}, 64), slices.Repeat([]int{3, -3}, 32)},
		api.ErrLimit: {slices.Repeat([]int{3}, 65), slices.Repeat([]int{0}, 65), make([]int, 5000), append(slices.Repeat([]int{3, -3}, 32), 13)},
		api.ErrRange: {
			{0}, {13}, {-13}, {math.MinInt}, {math.MinInt + 1}, {math.MaxInt}, {1, 0}, {1, -1, 0}, {1, 2, -1, 13}, {12, -13},
			append(slices.Repeat([]int{3}, 63), 0), append([]int{math.MinInt}, slices.Repeat([]int{3, -3}, 31)...),
		},
	} {
		for _, c := range l {
			if got, always, e := resolution.Normal(c); e != want || want != api.OK && (always || len(got) != 0) {
				t.Errorf("%.20v: %v, %t, %d, not %d", c, got, always, e, want)
			}
		}
	}
}

// TestValuations is P10.2: Holds, Models and Solve, against the meaning of clauses.
func TestValuations(t *testing.T) {
	for _, p := range problems() {
		models := modelsOf(p.n, p.l)
		if count, e := resolution.Models(p.n, p.l); count != len(models) || e != api.OK {
			t.Errorf("Models of %d variables and %v: %d, %d, not %d", p.n, p.l, count, e, len(models))
		}
		least, want := 0, api.ErrNone
		if len(models) > 0 {
			least, want = models[0], api.OK
		}
		if v, e := resolution.Solve(p.n, p.l); v != least || e != want {
			t.Errorf("Solve of %d variables and %v: %d, %d, not %d", p.n, p.l, v, e, least)
		}
		for v := range 1 << min(p.n, 8) {
			v |= v << (p.n - min(p.n, 8))
			if is, e := resolution.Holds(p.n, p.l, v); is != holds(p.l, v) || e != api.OK {
				t.Errorf("Holds of %d variables and %v at %d: %t, %d", p.n, p.l, v, is, e)
			}
		}
	}
}

// TestHoldsRange is P10.2: what is no valuation.
func TestHoldsRange(t *testing.T) {
	for n := range 13 {
		for _, v := range []int{math.MinInt, -1, 1 << n, 1<<n + 1, 1 << 13, 1 << 62, math.MaxInt} {
			for _, l := range [][][]int{nil, {{}}} {
				if is, e := resolution.Holds(n, l, v); is || e != api.ErrRange {
					t.Errorf("%d variables at %d: %t, %d", n, v, is, e)
				}
			}
		}
		for _, v := range []int{0, 1<<n - 1} {
			if is, e := resolution.Holds(n, nil, v); !is || e != api.OK {
				t.Errorf("%d variables at %d: %t, %d", n, v, is, e)
			}
		}
	}
}

// TestResolve is P10.4: all clauses of three variables, on all variables, and the last variable.
func TestResolve(t *testing.T) {
	r := rand.New(rand.NewPCG(10, 3))
	check := func(a, b []int, v int) {
		want, ok := resolved(a, b, v)
		wantError := api.OK
		switch {
		case !slices.Contains(a, v+1) || !slices.Contains(b, -v-1):
			wantError = api.ErrNone
		case !ok:
			wantError = api.ErrOp
		}
		if c, e := resolution.Resolve(a, b, v); !slices.Equal(c, want) || e != wantError {
			t.Fatalf("%v, %v on %d: %v, %d, not %v, %d", a, b, v, c, e, want, wantError)
		}
	}
	for _, a := range allClauses(3) {
		for _, b := range allClauses(3) {
			for v := range 12 {
				check(a, b, v)
			}
		}
	}
	for range 3000 {
		v, length := r.IntN(12), 2+r.IntN(8)
		a, b := randomClause(r, 12, length), randomClause(r, 12, length)
		check(a, b, v)
		with := func(c []int, literal int) []int {
			rest := slices.DeleteFunc(slices.Clone(c), func(other int) bool { return other == literal || other == -literal })
			return ascending(append(rest, literal))
		}
		check(with(a, v+1), with(b, -v-1), v)
	}
}

// TestResolveErrors is P10.4: the errors in their order.
func TestResolveErrors(t *testing.T) {
	check := func(a, b []int, v, want int) {
		t.Helper()
		if c, e := resolution.Resolve(a, b, v); len(c) != 0 || e != want {
			t.Errorf("%.20v, %.20v on %d: %v, %d, not %d", a, b, v, c, e, want)
		}
	}
	variables := []int{math.MinInt, -13, -2, -1, 12, 13, 64, math.MaxInt - 1, math.MaxInt}
	for _, l := range badClauses(12) {
		for _, c := range l {
			for _, v := range append(variables, 0, 11) {
				check(c, []int{-1}, v, api.ErrArg)
				check([]int{1}, c, v, api.ErrArg)
				check(c, c, v, api.ErrArg)
			}
		}
	}
	for _, v := range variables {
		check(nil, nil, v, api.ErrNone)
		check([]int{1, 2, -12}, []int{-1, -2, 12}, v, api.ErrNone)
	}
	check([]int{-1}, []int{1}, 0, api.ErrNone)
	check([]int{1}, []int{1}, 0, api.ErrNone)
	check([]int{-1}, []int{-1}, 0, api.ErrNone)
	check([]int{1, 2}, []int{-2}, 0, api.ErrNone)
	check([]int{-2, 3}, []int{-1, 2}, 0, api.ErrNone)
	check([]int{-2, 3}, []int{2, -3}, 1, api.ErrNone)
}

// TestClauses is P10.6 and P10.8: against the truth table, and that the same valuations satisfy the clauses.
func TestClauses(t *testing.T) {
	r := rand.New(rand.NewPCG(10, 4))
	for n := range 7 {
		for range 60 {
			all := uint64(1)<<(1<<n) - 1
			w := r.Uint64() & all
			switch r.IntN(4) {
			case 0:
				w &= r.Uint64()
			case 1:
				w = []uint64{0, all}[r.IntN(2)]
			}
			f, e := boolean.FromTable(w, n)
			if e != api.OK {
				t.Fatal(w, n, e)
			}
			var want [][]int
			for v := range 1 << n {
				if w>>v&1 == 1 {
					continue
				}
				c := []int{}
				for i := range n {
					c = append(c, []int{i + 1, -i - 1}[v>>i&1])
				}
				want = append(want, c)
			}
			l, e := resolution.Clauses(f, n)
			if !same(l, want) || e != api.OK {
				t.Fatalf("%x of %d facts: %v, %d, not %v", w, n, l, e, want)
			}
			for v := range 1 << n {
				if is, e := resolution.Holds(n, l, v); is != (w>>v&1 == 1) || e != api.OK {
					t.Fatalf("%x of %d facts at %d: %t, %d", w, n, v, is, e)
				}
			}
		}
	}
}

// TestClausesErrors is P10.6: the errors of boolean.Table.
func TestClausesErrors(t *testing.T) {
	p := formula.Fact(0)
	for i, c := range []struct {
		f    []api.Node
		n    int
		want int
	}{
		{nil, 2, api.ErrForm}, {[]api.Node{{Op: 22}}, -1, api.ErrOp}, {[]api.Node{{Op: api.OpFact, I: 8}}, 6, api.ErrRange},
		{make([]api.Node, 201), 2, api.ErrLimit}, {formula.Know(0, p), 2, api.ErrOp}, {formula.Not(formula.Next(p)), 7, api.ErrOp},
		{p, 0, api.ErrRange}, {p, -1, api.ErrRange}, {p, 7, api.ErrRange}, {p, math.MinInt, api.ErrRange}, {p, math.MaxInt, api.ErrRange},
		{formula.True(), 12, api.ErrRange}, {formula.Fact(3), 3, api.ErrRange},
	} {
		_, tableError := boolean.Table(c.f, c.n)
		if l, e := resolution.Clauses(c.f, c.n); len(l) != 0 || e != c.want || e != tableError {
			t.Errorf("case %d: %v, %d, not %d", i, l, e, c.want)
		}
	}
	f := []api.Node{{Op: api.OpFact, I: 7}, {Op: api.OpKnow, X: 0}, {Op: api.OpFalse}}
	if l, e := resolution.Clauses(f, 0); !same(l, [][]int{{}}) || e != api.OK {
		t.Error("nodes that are not used:", l, e)
	}
}
