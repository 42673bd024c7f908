package signature

import (
	"math"
	"slices"
	"strings"
	"testing"

	"witting/api"
)

// orders returns all orders of a list of names.
func orders(names []string) [][]string {
	if len(names) == 0 {
		return [][]string{nil}
	}
	var all [][]string
	for i, first := range names {
		for _, rest := range orders(slices.Delete(slices.Clone(names), i, i+1)) {
			all = append(all, append([]string{first}, rest...))
		}
	}
	return all
}

// members returns the names of a group.
func members(s api.Signature, group int) []string {
	var names []string
	for agent, name := range s.Agents {
		if group&(1<<agent) != 0 {
			names = append(names, name)
		}
	}
	return names
}

// TestGroups is part of P4.3 and P4.4: all groups, with their names in all orders.
func TestGroups(t *testing.T) {
	for _, s := range goodSignatures() {
		for group := 1; group < 1<<len(s.Agents); group++ {
			text, e := Text(s, group)
			if e != api.OK || text != strings.Join(members(s, group), ",") {
				t.Errorf("Text(%q, %d) is %q, %d", s, group, text, e)
			}
			for _, names := range orders(members(s, group)) {
				if g, e := Group(s, names); g != group || e != api.OK {
					t.Errorf("Group(%q, %q) is %d, %d", s, names, g, e)
				}
				text := strings.Join(names, ",")
				if g, e := Parse(s, text); g != group || e != api.OK {
					t.Errorf("Parse(%q, %q) is %d, %d", s, text, g, e)
				}
			}
		}
	}
}

// TestTextErrors is part of P4.3.
func TestTextErrors(t *testing.T) {
	for _, s := range goodSignatures() {
		n := len(s.Agents)
		for _, group := range []int{math.MinInt, -1, 0, 1 << n, 1<<n + 1, 1 << 8, 1 << 40, math.MaxInt} {
			if text, e := Text(s, group); text != "" || e != api.ErrRange {
				t.Errorf("Text(%q, %d) is %q, %d", s, group, text, e)
			}
		}
	}
	for _, c := range badSignatures() {
		for _, group := range []int{-1, 0, 1, math.MaxInt} {
			if text, e := Text(c.s, group); text != "" || e != c.e {
				t.Errorf("Text(%q, %d) is %q, %d", c.s, group, text, e)
			}
		}
	}
}

// TestGroupErrors is part of P4.3: the signature first, then the first name with an error.
func TestGroupErrors(t *testing.T) {
	s := sign("a b c", "p q", "act0")
	for _, c := range []struct {
		names []string
		e     int
	}{
		{nil, api.ErrArg},
		{[]string{}, api.ErrArg},
		{[]string{"p"}, api.ErrNone},
		{[]string{"act0"}, api.ErrNone},
		{[]string{"d"}, api.ErrNone},
		{[]string{""}, api.ErrNone},
		{[]string{"2a"}, api.ErrNone},
		{[]string{"a,b"}, api.ErrNone},
		{[]string{"true"}, api.ErrNone},
		{[]string{"a", "a"}, api.ErrExist},
		{[]string{"c", "b", "a", "b"}, api.ErrExist},
		{[]string{"a", "a", "d"}, api.ErrExist},
		{[]string{"a", "d", "a"}, api.ErrNone},
		{[]string{"d", "d"}, api.ErrNone},
		{slices.Repeat([]string{"a"}, 1000), api.ErrExist},
	} {
		if group, e := Group(s, c.names); group != 0 || e != c.e {
			t.Errorf("Group(%q) is %d, %d", c.names, group, e)
		}
	}
	for _, c := range badSignatures() {
		for _, names := range [][]string{nil, {"a"}, {"a", "a"}, {"none"}} {
			if group, e := Group(c.s, names); group != 0 || e != c.e {
				t.Errorf("Group(%q, %q) is %d, %d", c.s, names, group, e)
			}
		}
	}
	if group, e := Group(api.Signature{}, []string{"a"}); group != 0 || e != api.ErrNone {
		t.Error("without agents:", group, e)
	}
}

// TestParseErrors is part of P4.3: the signature first, then the syntax of all parts, then the first name with an error.
func TestParseErrors(t *testing.T) {
	s := sign("a b c", "p q", "act0")
	for _, c := range []struct {
		text string
		e    int
	}{
		{"", api.ErrSyntax},
		{",", api.ErrSyntax},
		{"a,", api.ErrSyntax},
		{",a", api.ErrSyntax},
		{"a,,c", api.ErrSyntax},
		{"a, c", api.ErrSyntax},
		{" a", api.ErrSyntax},
		{"a ", api.ErrSyntax},
		{"a b", api.ErrSyntax},
		{"a;b", api.ErrSyntax},
		{"{a}", api.ErrSyntax},
		{"A", api.ErrSyntax},
		{"2a", api.ErrSyntax},
		{"a,2a", api.ErrSyntax},
		{"d,2a", api.ErrSyntax},
		{"a,a,2a", api.ErrSyntax},
		{"a,abcdefghi", api.ErrSyntax},
		{"\xff", api.ErrSyntax},
		{"a,a", api.ErrExist},
		{"b,c,b", api.ErrExist},
		{"a,a,d", api.ErrExist},
		{"p", api.ErrNone},
		{"a,p", api.ErrNone},
		{"a,d,a", api.ErrNone},
		{"d", api.ErrNone},
		{"true", api.ErrNone},
		{"a,do", api.ErrNone},
		{"act0", api.ErrNone},
		{"abcdefgh", api.ErrNone},
		{strings.Repeat("a,", 100000) + "a", api.ErrExist},
		{strings.Repeat("a,", 100000), api.ErrSyntax},
	} {
		if group, e := Parse(s, c.text); group != 0 || e != c.e {
			t.Errorf("Parse(%.20q) is %d, %d", c.text, group, e)
		}
	}
	for _, c := range badSignatures() {
		for _, text := range []string{"", "a", "a,a", "2a"} {
			if group, e := Parse(c.s, text); group != 0 || e != c.e {
				t.Errorf("Parse(%q, %q) is %d, %d", c.s, text, group, e)
			}
		}
	}
}

// spare returns names with spare capacity that is filled with a mark.
func spare(names ...string) []string {
	return append(slices.Clone(names), "mark", "mark")[:len(names)]
}

// TestUnchangedArguments is part of P4.1 to P4.3: arguments stay as they are, with their spare capacity.
func TestUnchangedArguments(t *testing.T) {
	s := api.Signature{Agents: spare("a", "b"), Facts: spare("p"), Actions: spare("x")}
	names := spare("b", "a")
	Check(s)
	Agent(s, "b")
	Fact(s, "p")
	Action(s, "x")
	Text(s, 3)
	Parse(s, "b,a")
	if group, e := Group(s, names); group != 3 || e != api.OK {
		t.Error("Group", group, e)
	}
	for _, c := range []struct {
		now  []string
		want string
	}{{s.Agents, "a b mark mark"}, {s.Facts, "p mark mark"}, {s.Actions, "x mark mark"}, {names, "b a mark mark"}} {
		if now := strings.Join(c.now[:len(c.now)+2], " "); now != c.want {
			t.Errorf("%q became %q", c.want, now)
		}
	}
}

// FuzzParse is part of P1 of DOC.md and of P4.4: any text has a result, and an accepted text contains the names of its group.
func FuzzParse(f *testing.F) {
	for _, text := range []string{"", ",", "a", "c,a", "a,,c", "a,a", "a,p", "\xff", "true"} {
		f.Add(text)
	}
	s := sign("a b ann", "p q", "act0")
	f.Fuzz(func(t *testing.T, text string) {
		group, e := Parse(s, text)
		if e != api.OK {
			if group != 0 {
				t.Errorf("%q has the error %d and the group %d", text, e, group)
			}
			return
		}
		names := strings.Split(text, ",")
		back, e := Text(s, group)
		parts := strings.Split(back, ",")
		slices.Sort(names)
		slices.Sort(parts)
		if e != api.OK || !slices.Equal(names, parts) {
			t.Errorf("%q is read as %q, %d", text, back, e)
		}
	})
}
