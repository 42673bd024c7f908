package relation

import (
	"math"
	"slices"
	"testing"

	"witting/api"
)

// full is a variable so that shifts drop its upper bits, as those of computed sets.
var full uint64 = math.MaxUint64

// malformed contains lists that are no relations, with their errors.
func malformed() map[int][][]uint64 {
	late := make([]uint64, 63)
	late[62] = 1 << 63
	return map[int][][]uint64{
		api.ErrRange: {make([]uint64, 65), make([]uint64, 1000), slices.Repeat([]uint64{full}, 65)},
		api.ErrArg:   {{2}, {4, 0}, {0, 4}, {0, 1 << 63}, {full, full, full}, late},
	}
}

// relations returns all relations over n points.
func relations(n int) [][]uint64 {
	l := [][]uint64{{}}
	for range n {
		longer := [][]uint64{}
		for _, r := range l {
			for row := range uint64(1) << n {
				longer = append(longer, append(slices.Clone(r), row))
			}
		}
		l = longer
	}
	return l
}

// mixed returns relations over n points without a pattern, from sparse to dense.
func mixed(n int) [][]uint64 {
	l := [][]uint64{}
	x := uint64(88172645463325252) + uint64(n)
	next := func() uint64 {
		x ^= x << 13
		x ^= x >> 7
		x ^= x << 17
		return x
	}
	for density := range 6 {
		r := make([]uint64, n)
		for w := range r {
			row := full
			for range 6 - density {
				row &= next()
			}
			r[w] = row & (uint64(1)<<n - 1)
		}
		l = append(l, r)
	}
	return l
}

// samples returns all relations over at most 2 points, and some over more.
func samples() [][]uint64 {
	l := slices.Concat(relations(0), relations(1), relations(2))
	for _, n := range []int{3, 4, 7, 20, 63, 64} {
		l = append(l, mixed(n)...)
	}
	return l
}

func pair(r []uint64, w, v int) bool {
	return r[w]>>v&1 == 1
}

func contains(large, small []uint64) bool {
	for w := range small {
		if small[w]&^large[w] != 0 {
			return false
		}
	}
	return true
}

// TestCheck is P2.1.
func TestCheck(t *testing.T) {
	for _, c := range []struct {
		n int
		r []uint64
		e int
	}{
		{0, nil, api.OK},
		{0, []uint64{}, api.OK},
		{1, []uint64{1}, api.OK},
		{2, []uint64{3, 0}, api.OK},
		{64, slices.Repeat([]uint64{full}, 64), api.OK},
		{63, slices.Repeat([]uint64{full >> 1}, 63), api.OK},
		{-1, nil, api.ErrRange},
		{65, make([]uint64, 65), api.ErrRange},
		{65, nil, api.ErrRange},
		{math.MaxInt, nil, api.ErrRange},
		{math.MinInt, []uint64{1}, api.ErrRange},
		{1, nil, api.ErrForm},
		{0, []uint64{0}, api.ErrForm},
		{2, []uint64{0}, api.ErrForm},
		{2, []uint64{4, 0, 0}, api.ErrForm},
		{64, make([]uint64, 65), api.ErrForm},
		{1, []uint64{2}, api.ErrArg},
		{2, []uint64{0, 4}, api.ErrArg},
		{2, []uint64{1 << 63, 0}, api.ErrArg},
		{63, slices.Repeat([]uint64{full}, 63), api.ErrArg},
	} {
		if e := Check(c.n, c.r); e != c.e {
			t.Errorf("Check(%d, %x) is %d", c.n, c.r, e)
		}
	}
	for want, l := range malformed() {
		for _, r := range l {
			if e := Check(len(r), r); e != want {
				t.Errorf("Check of %d words is %d, not %d", len(r), e, want)
			}
		}
	}
}

type join struct {
	name string
	f    func(r, s []uint64) ([]uint64, int)
	has  func(r, s []uint64, w, v int) bool
}

func joins() []join {
	return []join{
		{"Compose", Compose, func(r, s []uint64, w, v int) bool {
			for u := range r {
				if pair(r, w, u) && pair(s, u, v) {
					return true
				}
			}
			return false
		}},
		{"Union", Union, func(r, s []uint64, w, v int) bool { return pair(r, w, v) || pair(s, w, v) }},
		{"Meet", Meet, func(r, s []uint64, w, v int) bool { return pair(r, w, v) && pair(s, w, v) }},
	}
}

// TestJoins is part of P2.2: the pairs of Compose, Union and Meet.
func TestJoins(t *testing.T) {
	for _, j := range joins() {
		for _, r := range samples() {
			for _, s := range samples() {
				if len(r) != len(s) {
					continue
				}
				got, e := j.f(r, s)
				if e != api.OK || len(got) != len(r) || Check(len(got), got) != api.OK {
					t.Fatalf("%s(%x, %x) is %x, %d", j.name, r, s, got, e)
				}
				for w := range r {
					for v := range r {
						if pair(got, w, v) != j.has(r, s, w, v) {
							t.Fatalf("%s(%x, %x) is %x", j.name, r, s, got)
						}
					}
				}
			}
		}
	}
	r := []uint64{2, 4, 0}
	if c, e := Compose(r, r); e != api.OK || !slices.Equal(c, []uint64{4, 0, 0}) {
		t.Error("the example of Compose:", c, e)
	}
	// which relation comes first makes a difference
	if c, e := Compose([]uint64{2, 0, 0}, []uint64{0, 4, 0}); e != api.OK || !slices.Equal(c, []uint64{4, 0, 0}) {
		t.Error("one step and another:", c, e)
	}
	if c, e := Compose([]uint64{0, 4, 0}, []uint64{2, 0, 0}); e != api.OK || !slices.Equal(c, []uint64{0, 0, 0}) {
		t.Error("the other order:", c, e)
	}
}

// TestJoinErrors is part of P2.2: the error of r, of s, and then of their numbers of points.
func TestJoinErrors(t *testing.T) {
	large := make([]uint64, 65)
	for _, j := range joins() {
		for _, c := range []struct {
			r, s []uint64
			e    int
		}{
			{[]uint64{2}, large, api.ErrArg},
			{large, []uint64{2}, api.ErrRange},
			{[]uint64{0}, large, api.ErrRange},
			{large, large, api.ErrRange},
			{nil, large, api.ErrRange},
			{[]uint64{0}, []uint64{2}, api.ErrArg},
			{[]uint64{1}, []uint64{1, 1}, api.ErrArg},
			{[]uint64{1, 1}, []uint64{1}, api.ErrArg},
			{nil, []uint64{0}, api.ErrArg},
			{[]uint64{0}, nil, api.ErrArg},
			{nil, nil, api.OK},
		} {
			if got, e := j.f(c.r, c.s); e != c.e || len(got) != 0 {
				t.Errorf("%s of %d and %d words is %x, %d", j.name, len(c.r), len(c.s), got, e)
			}
		}
	}
}

// TestConverse is part of P2.2.
func TestConverse(t *testing.T) {
	for _, r := range append(samples(), relations(3)...) {
		c, e := Converse(r)
		if e != api.OK || len(c) != len(r) {
			t.Fatalf("Converse(%x) is %x, %d", r, c, e)
		}
		for w := range r {
			for v := range r {
				if pair(c, v, w) != pair(r, w, v) {
					t.Fatalf("Converse(%x) is %x", r, c)
				}
			}
		}
	}
	if c, e := Converse([]uint64{2, 4, 0}); e != api.OK || !slices.Equal(c, []uint64{0, 1, 2}) {
		t.Error("the example:", c, e)
	}
	for want, l := range malformed() {
		for _, r := range l {
			if c, e := Converse(r); e != want || len(c) != 0 {
				t.Errorf("Converse of %d words is %x, %d", len(r), c, e)
			}
		}
	}
}

// TestJoinLaws is part of P2.6: composition is associative, and the converse reverses it.
func TestJoinLaws(t *testing.T) {
	must := func(r []uint64, e int) []uint64 {
		if e != api.OK {
			t.Fatal("an error:", e)
		}
		return r
	}
	for _, l := range [][][]uint64{relations(1), relations(2), mixed(3), mixed(9), mixed(64)} {
		for _, r := range l {
			for _, s := range l {
				rs := must(Compose(r, s))
				turned := must(Compose(must(Converse(s)), must(Converse(r))))
				if !slices.Equal(must(Converse(rs)), turned) {
					t.Fatalf("the converse of %x and %x", r, s)
				}
				for _, u := range l {
					left := must(Compose(rs, u))
					if !slices.Equal(left, must(Compose(r, must(Compose(s, u))))) {
						t.Fatalf("%x, %x and %x", r, s, u)
					}
				}
			}
			if !slices.Equal(must(Converse(must(Converse(r)))), r) {
				t.Fatalf("the converse of the converse of %x", r)
			}
		}
	}
}

// everyFunction calls all functions of the package, and returns the relations and lists among the results.
func everyFunction(r, s []uint64, set, other uint64, number int) [][]uint64 {
	l := [][]uint64{}
	for _, f := range []func([]uint64) ([]uint64, int){Converse, Reflexive, Symmetric, Transitive, Euclidean} {
		c, _ := f(r)
		l = append(l, c)
	}
	for _, j := range joins() {
		c, _ := j.f(r, s)
		l = append(l, c)
	}
	Check(number, r)
	Has(r, number)
	Box(r, set)
	Diamond(r, set)
	Reach(r, set)
	Path(r, set, other)
	return l
}

// TestValues is the rule 'Values' of DOC.md: arguments with their spare capacity stay as they are, and results are new memory.
func TestValues(t *testing.T) {
	for _, r := range [][]uint64{{2, 4, 0}, {7, 7, 7}, {1, 2, 4}, {0, 0, 0}} {
		memory := append(slices.Clone(r), 5, 6, 7)
		before := slices.Clone(memory)
		results := everyFunction(memory[:3], memory[:3], full, full, 3)
		again := everyFunction(memory[:3], memory[:3], full, full, 3)
		if !slices.Equal(memory, before) {
			t.Fatalf("an argument was changed: %x", memory)
		}
		for i, c := range results {
			kept := slices.Clone(again[i])
			for w := range c {
				c[w] = 99
			}
			if !slices.Equal(memory, before) || !slices.Equal(again[i], kept) {
				t.Errorf("the result %d of %x shares memory", i, r)
			}
		}
		path := Path(memory[:3], full, full)
		for i := range path {
			path[i] = 99
		}
		if slices.Contains(Path(memory[:3], full, full), 99) {
			t.Errorf("two paths of %x share memory", r)
		}
	}
}

// TestArgumentsOfAnyForm is P1 of DOC.md: a panic or a loop without end would fail it.
func TestArgumentsOfAnyForm(t *testing.T) {
	lists := append(samples(), nil)
	for _, l := range malformed() {
		lists = append(lists, l...)
	}
	for _, r := range lists {
		for _, number := range []int{math.MinInt, -1, 0, 1, 2, 63, 64, 65, math.MaxInt} {
			for _, set := range []uint64{0, 1, 1 << 63, full} {
				everyFunction(r, []uint64{2, 1}, set, full, number)
				everyFunction(r, r, set, 1<<63, number)
			}
		}
	}
}
