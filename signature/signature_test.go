package signature

import (
	"math"
	"slices"
	"strings"
	"testing"

	"witting/api"
)

// words returns the reserved words as the document lists them.
func words() []string {
	return strings.Fields("true false next prev until since do")
}

// strangeNames returns strings that are no names.
func strangeNames() []string {
	return []string{
		"", "_", "_a", "1", "2a", "9", "A", "Ab", "aB", "a b", " a", "a ", "a,b", ",", "a-b", "a.b", "a'", "a\x00", "a\n", "\x00",
		"abcdefghi", "a12345678", strings.Repeat("a", 1000), "é", "aé", "a\u0663", "\u00aa", "a\u200b", "\xff", "a\xff", "`", "{", "a`", "a{", "a/", "a:", "a@", "a[", "a^",
	}
}

// TestIsName is part of P4.1: all strings of one byte and of two bytes, and lengths.
func TestIsName(t *testing.T) {
	letter := func(c int) bool { return strings.IndexByte("abcdefghijklmnopqrstuvwxyz", byte(c)) >= 0 }
	later := func(c int) bool { return letter(c) || strings.IndexByte("0123456789_", byte(c)) >= 0 }
	for c := range 256 {
		if IsName(string([]byte{byte(c)})) != letter(c) {
			t.Errorf("the byte %d alone", c)
		}
		for d := range 256 {
			if name := string([]byte{byte(c), byte(d)}); IsName(name) != (letter(c) && later(d)) {
				t.Errorf("IsName(%q) is %t", name, IsName(name))
			}
		}
		if name := "abcdefg" + string([]byte{byte(c)}); IsName(name) != later(c) {
			t.Errorf("IsName(%q) is %t", name, IsName(name))
		}
	}
	for _, name := range append(words(), "a", "z", "a_", "a__", "a0", "z9", "act0", "abcdefgh", "a2345678", "a_______", "truex", "d0") {
		if !IsName(name) {
			t.Errorf("IsName(%q) is false", name)
		}
	}
	for _, name := range strangeNames() {
		if IsName(name) {
			t.Errorf("IsName(%q) is true", name)
		}
	}
}

// TestReserved is part of P4.1.
func TestReserved(t *testing.T) {
	for _, name := range words() {
		if !Reserved(name) {
			t.Errorf("Reserved(%q) is false", name)
		}
		for _, near := range []string{strings.ToUpper(name), name[1:], name[:len(name)-1], name + " ", " " + name, name + "s", name + name} {
			if Reserved(near) {
				t.Errorf("Reserved(%q) is true", near)
			}
		}
	}
	for _, name := range append(strangeNames(), "a", "p", "act0", "known", "not") {
		if Reserved(name) {
			t.Errorf("Reserved(%q) is true", name)
		}
	}
}

// sign returns a signature of names that are separated by spaces.
func sign(agents, facts, actions string) api.Signature {
	return api.Signature{Agents: strings.Fields(agents), Facts: strings.Fields(facts), Actions: strings.Fields(actions)}
}

// badSignatures returns signatures that are not valid, with their errors.
func badSignatures() []struct {
	s api.Signature
	e int
} {
	return []struct {
		s api.Signature
		e int
	}{
		{sign("a b c d e", "", ""), api.ErrLimit},
		{sign("", "f g h i j k l m n", ""), api.ErrLimit},
		{sign("", "", "f g h i j k l m n"), api.ErrLimit},
		{sign("2a", "", "f g h i j k l m n"), api.ErrLimit},
		{sign("a a A do e", "", ""), api.ErrLimit},
		{sign("2a", "", ""), api.ErrForm},
		{sign("a", "P", ""), api.ErrForm},
		{sign("a", "p", "act-0"), api.ErrForm},
		{sign("a abcdefghi", "p", ""), api.ErrForm},
		{api.Signature{Agents: []string{""}}, api.ErrForm},
		{api.Signature{Facts: []string{"p", "q "}}, api.ErrForm},
		{sign("a", "a", ""), api.ErrName},
		{sign("a", "p", "a"), api.ErrName},
		{sign("a", "p", "p"), api.ErrName},
		{sign("a a", "", ""), api.ErrName},
		{sign("", "p q p", ""), api.ErrName},
		{sign("", "", "x y y"), api.ErrName},
		{sign("a", "do", ""), api.ErrName},
		{sign("true", "", ""), api.ErrName},
		{sign("", "", "since"), api.ErrName},
		{sign("do 2a", "", ""), api.ErrName},
		{sign("2a do", "", ""), api.ErrForm},
		{sign("a a", "P", ""), api.ErrName},
		{sign("a", "P", "a"), api.ErrForm},
		{sign("a", "a", "P"), api.ErrName},
		{sign("", "next P", ""), api.ErrName},
		{sign("a", "p", "P p"), api.ErrForm},
	}
}

// goodSignatures returns valid signatures.
func goodSignatures() []api.Signature {
	return []api.Signature{
		{},
		sign("a", "", ""),
		sign("", "p", ""),
		sign("", "", "x"),
		sign("ann bob", "p q", "tell ask"),
		sign("z y x w", "p_1 p_2 p_3 p_4 p_5 p_6 p_7 p_8", "act0 act1 act2 act3 act4 act5 act6 act7"),
		sign("a aa aaa aaaa", "b", "c"),
		sign("truer", "dot", "nexts"),
		sign("abcdefgh abcdefg", "abcdef", "abcde"),
	}
}

// TestCheck is part of P4.1: the limits first, then the first name with an error.
func TestCheck(t *testing.T) {
	for _, s := range goodSignatures() {
		if e := Check(s); e != api.OK {
			t.Errorf("Check(%q) is %d", s, e)
		}
	}
	for _, c := range badSignatures() {
		if e := Check(c.s); e != c.e {
			t.Errorf("Check(%q) is %d, not %d", c.s, e, c.e)
		}
	}
	for _, name := range words() {
		for _, s := range []api.Signature{sign(name, "", ""), sign("a", "p "+name, ""), sign("a", "p", name)} {
			if e := Check(s); e != api.ErrName {
				t.Errorf("Check(%q) is %d", s, e)
			}
		}
	}
	for _, name := range strangeNames() {
		for _, s := range []api.Signature{{Agents: []string{name}}, {Facts: []string{"p", name}}, {Actions: []string{name, "a"}}} {
			if e := Check(s); e != api.ErrForm {
				t.Errorf("Check(%q) is %d", s, e)
			}
		}
	}
}

// TestNumbers is part of P4.2 and P4.4: a name has a number for its own kind alone.
func TestNumbers(t *testing.T) {
	for _, s := range goodSignatures() {
		for _, name := range slices.Concat(s.Agents, s.Facts, s.Actions, words(), strangeNames(), []string{"a", "p", "act0"}) {
			agent, fact, action := slices.Index(s.Agents, name), slices.Index(s.Facts, name), slices.Index(s.Actions, name)
			if Agent(s, name) != agent || Fact(s, name) != fact || Action(s, name) != action {
				t.Errorf("%q in %q: %d, %d, %d", name, s, Agent(s, name), Fact(s, name), Action(s, name))
			}
			if agent >= 0 && fact >= 0 || agent >= 0 && action >= 0 || fact >= 0 && action >= 0 {
				t.Errorf("%q has two kinds in %q", name, s)
			}
		}
	}
	for _, c := range badSignatures() {
		for _, name := range slices.Concat(c.s.Agents, c.s.Facts, c.s.Actions, []string{"", "a", "p"}) {
			if Agent(c.s, name) != -1 || Fact(c.s, name) != -1 || Action(c.s, name) != -1 {
				t.Errorf("%q in %q: %d, %d, %d", name, c.s, Agent(c.s, name), Fact(c.s, name), Action(c.s, name))
			}
		}
	}
}

// same reports whether two signatures have the same names.
func same(s, u api.Signature) bool {
	return slices.Equal(s.Agents, u.Agents) && slices.Equal(s.Facts, u.Facts) && slices.Equal(s.Actions, u.Actions)
}

// TestDefault is part of P4.2.
func TestDefault(t *testing.T) {
	all := sign("a b c d", "p q r s t u v w", "act0 act1 act2 act3 act4 act5 act6 act7")
	for agents := range api.MaxAgents + 1 {
		for facts := range api.MaxFacts + 1 {
			for actions := range api.MaxActions + 1 {
				s, e := Default(agents, facts, actions)
				want := api.Signature{Agents: all.Agents[:agents], Facts: all.Facts[:facts], Actions: all.Actions[:actions]}
				if e != api.OK || !same(s, want) || Check(s) != api.OK {
					t.Errorf("Default(%d, %d, %d) is %q, %d", agents, facts, actions, s, e)
				}
			}
		}
	}
	for _, c := range [][3]int{
		{-1, 0, 0}, {0, -1, 0}, {0, 0, -1}, {5, 0, 0}, {0, 9, 0}, {0, 0, 9}, {-1, 9, 9},
		{math.MinInt, 1, 1}, {1, math.MinInt, 1}, {1, 1, math.MinInt}, {math.MaxInt, 1, 1}, {1, math.MaxInt, 1}, {1, 1, math.MaxInt},
	} {
		if s, e := Default(c[0], c[1], c[2]); e != api.ErrRange || !same(s, api.Signature{}) {
			t.Errorf("Default%v is %q, %d", c, s, e)
		}
	}
}

// TestExamples is part of P4.1 to P4.3.
func TestExamples(t *testing.T) {
	s, e := Default(3, 2, 1)
	if e != api.OK || !same(s, sign("a b c", "p q", "act0")) || Agent(s, "c") != 2 || Fact(s, "c") != -1 {
		t.Error("Default", s, e, Agent(s, "c"), Fact(s, "c"))
	}
	if group, e := Group(s, []string{"c", "a"}); group != 5 || e != api.OK {
		t.Error("Group", group, e)
	}
	if text, e := Text(s, 5); text != "a,c" || e != api.OK {
		t.Error("Text", text, e)
	}
	for _, c := range []struct {
		text     string
		group, e int
	}{{"c,a", 5, api.OK}, {"a,,c", 0, api.ErrSyntax}, {"", 0, api.ErrSyntax}, {"a,a", 0, api.ErrExist}, {"a,p", 0, api.ErrNone}} {
		if group, e := Parse(s, c.text); group != c.group || e != c.e {
			t.Errorf("Parse(%q) is %d, %d", c.text, group, e)
		}
	}
}

// TestResultsAreNew is part of P4.2: what is done to a result does not show in later ones, nor in the argument.
func TestResultsAreNew(t *testing.T) {
	want, _ := Default(4, 8, 8)
	for _, n := range []int{0, 2, 4} {
		s, _ := Default(n, n, n)
		for _, l := range [][]string{s.Agents, s.Facts, s.Actions} {
			for i := range l[:cap(l)] {
				l[:cap(l)][i] = "x"
			}
		}
		if again, e := Default(4, 8, 8); e != api.OK || !same(again, sign("a b c d", "p q r s t u v w", "act0 act1 act2 act3 act4 act5 act6 act7")) || !same(again, want) {
			t.Errorf("after %d names: %q, %d", n, again, e)
		}
	}
}
