package modeltext_test

import (
	"strconv"
	"strings"
	"testing"

	"witting/api"
	"witting/model"
	"witting/modeltext"
)

// isZero reports whether a model is the zero value.
func isZero(m api.Model) bool {
	return m.Worlds == 0 && len(m.Val) == 0 && len(m.Rel) == 0
}

// reads tests that a text has a model, for the agents a, b and the facts p, q.
func reads(t *testing.T, text string, want api.Model) {
	t.Helper()
	if m, line, e := modeltext.Parse(names(2, 2), text); e != api.OK || line != 0 || !model.Same(m, want) {
		t.Errorf("%.200q is read as %v, %d, %d", text, m, line, e)
	}
}

// fails tests that a text has an error at a line, for the agents a, b and the facts p, q.
func fails(t *testing.T, text string, line, e int) {
	t.Helper()
	if m, at, got := modeltext.Parse(names(2, 2), text); got != e || at != line || !isZero(m) {
		t.Errorf("%.200q is read as %v, with %d at line %d, not %d at line %d", text, m, got, at, e, line)
	}
}

// empty returns the model of a worlds line alone.
func empty(worlds int) api.Model {
	return api.Model{Worlds: worlds, Val: []uint64{0, 0}, Rel: [][]uint64{make([]uint64, worlds), make([]uint64, worlds)}}
}

// TestLayout is P14.2 and P14.4: spaces, empty lines, comments, the end of the text, and the order of the lines.
func TestLayout(t *testing.T) {
	for _, text := range []string{
		"worlds 3\nfact p {0 2}\ncells a {0 1}\nagent b 2 {0 2}",
		"worlds 3\nfact p {0 2}\ncells a {0 1}\nagent b 2 {0 2}\n",
		"worlds 3\nfact p {0 2}\ncells a {0 1}\nagent b 2 {0 2}\n\n \n",
		"\n\n   \nworlds 3\n\nfact p {0 2}\n  \ncells a {0 1}\n\n\nagent b 2 {0 2}",
		"  worlds   3  \n   fact  p   {0 2}   \n cells a  {0 1} \n  agent   b  2  {0 2} ",
		"worlds 3\nfact p{0 2}\ncells a{0 1}\nagent b 2{0 2}",
		"worlds 3\nfact p{0 2}\ncells a{0 1}{2}\nagent b 2{0 2}  ",
		"worlds 3\nfact p {0 2}\ncells a {2}{0 1}{}\nagent b 2 {0 2}",
		"#\nworlds 3\n# fact q {0}\n#fact q {0}\nfact p {0 2}\n   # a {\ncells a {0 1}\n#{\n#}{\n # { {0}\nagent b 2 {0 2}\n#",
		"# worlds 4\n##\n#\xff\x00\nworlds 3\nfact q {}\nfact p {0 2}\ncells a {0 1}\nagent b 2 {0 2}\nagent b 0 {}\nagent b 1 {}",
		"worlds 3\nagent b 2 {0 2}\nagent a 2 {2}\nagent a 0 {0 1}\nfact p {0 2}\nagent a 1 {0 1}",
	} {
		reads(t, text, example())
	}
}

// TestWorlds is P14.2: the number of worlds.
func TestWorlds(t *testing.T) {
	for n := 1; n <= 64; n++ {
		reads(t, "worlds "+strconv.Itoa(n), empty(n))
	}
	for _, n := range []string{"0", "65", "66", "99", "100", "640", "999"} {
		fails(t, "worlds "+n, 1, api.ErrRange)
		fails(t, "# none\n\nworlds "+n+"\nworlds 3", 3, api.ErrRange)
	}
	for _, n := range []string{
		"", "00", "01", "064", "000", "1000", "0001", "99999999999999999999", "-1", "+1", "1.0", "1e1", "0x1", "1_0", "x", "3x", "x3", "3\t", "3\r",
		"{3}", "{}", "3 3", "3 {}", "3{}", "3 #", "3 # three", "\u0663", "\xff", "3\x00", "{", "3 {", "3}",
	} {
		fails(t, "worlds "+n, 1, api.ErrSyntax)
		fails(t, "\nworlds "+n+"\nworlds 3", 2, api.ErrSyntax)
	}
}

// TestFirstLine is P14.2: the worlds line is the first one that is not ignored.
func TestFirstLine(t *testing.T) {
	for _, text := range []string{"", "\n", "   ", "\n \n\n", "#", "# worlds 3", "# worlds 3\n", "\n\n#{\n", "  #\n##"} {
		fails(t, text, 0, api.ErrSyntax)
	}
	for _, line := range []string{"fact p {0}", "agent a 0 {0}", "cells a", "cells a {0}", "world 3", "Worlds 3", "worlds3", "3", "3 worlds", "{}", "{", "{worlds} 3", "fact r {x}", "\tworlds 3", "{}#", "worlds", "}"} {
		fails(t, line, 1, api.ErrSyntax)
		fails(t, line+"\nworlds 3", 1, api.ErrSyntax)
		fails(t, "#\n\n \n"+line+"\nworlds 3\n", 4, api.ErrSyntax)
	}
	for _, line := range []string{"worlds 3", "worlds 2", "worlds", "worlds x", "worlds 65", "worlds {"} {
		fails(t, "worlds 3\n"+line, 2, api.ErrSyntax)
		fails(t, "worlds 3\nfact p {0}\n#\n"+line, 4, api.ErrSyntax)
	}
}

// TestSyntax is part of P14.2: lines that are none of the table, and the syntax of sets. The names do not exist where they need not.
func TestSyntax(t *testing.T) {
	for _, line := range []string{
		"facts p {0}", "fac p {0}", "Fact p {0}", "fact", "fact p", "fact {0}", "fact p {0} {1}", "fact p {0}{1}", "fact p {0} q", "fact p {0}q", "fact p q {0}", "fact p 0", "fact p 0 {0}", "fact {0} p", "fact {p} {0}", "fact {0} {0}",
		"{0}", "{0} fact p", "{}", "{fact} p {0}", "p", "p {0}", "{}#",
		"fact p {0", "fact p {", "fact p{", "fact p {0 {1", "fact p {0} {", "fact p {0}{", "{", "fact {", "fact r {", "fact p }", "fact p {0}}", "fact p }{0}", "fact p } {0}",
		"fact\tp {0}", "fact p {0}\t", "fact p {0}\r", "\tfact p {0}", "fact p {0}\x00", "fact p {0} #", "fact p {0} # true", "fact p #",
		"agent", "agent a", "agent a {0}", "agent a 0", "agent a {0} {0}", "agent a {0} 0", "agent {0} a 0", "agent a x {0}", "agent a 00 {0}", "agent a 01 {0}", "agent a 000 {0}", "agent a 1000 {0}", "agent a 0001 {0}",
		"agent a -1 {0}", "agent a +0 {0}", "agent a 0.0 {0}", "agent a 0x0 {0}", "agent a \u0660 {0}", "agent a 0 {0} {1}", "agent a 0 {0} 1", "agent a 0 0", "agent a 0 1 {0}", "agent 0 a {0}", "agent {a} 0 {0}", "agent a 0 {0", "agent a 0\t {0}", "agents a 0 {0}", "agent c x {0}",
		"cells", "cells {0}", "cells {a} {0}", "cells a b", "cells a b {0}", "cells a {0} b", "cells a {0} 1 {2}", "cells a 0", "cells a 0 {0}", "cells a {0} {1", "cells a {0} {1}{", "cells a #", "cells a {0} #", "cell a {0}", "cells c {0} x", "cells p 0",
		"fact p {0,1}", "fact p { 0}", "fact p {0 }", "fact p {0  1}", "fact p { }", "fact p {a}", "fact p {00}", "fact p {{0}", "fact p {fact}", "fact p {-1}", "fact p {9999999999}", "fact p {0\t1}", "fact p {9 8 x}",
		"agent a 2 {x}", "agent a 0 {9 01}", "cells a {x}", "cells a {0} {x} {9}", "cells a {0} {0} {x}", "cells a {0} { } {1 0}", "cells b {}{0}{{1}",
	} {
		fails(t, "worlds 3\n"+line, 2, api.ErrSyntax)
		fails(t, "#\nworlds 3\n\n  # {\nfact q {1}\n"+line+"\nfact r {0}\nworlds 2", 6, api.ErrSyntax)
	}
}

// TestNames is part of P14.2: names that there are not, or that name something else, before the errors of the other items.
func TestNames(t *testing.T) {
	for _, line := range []string{
		"fact r {0}", "fact a {0}", "fact P {0}", "fact 0 {0}", "fact p} {0}", "fact p}{0}", "fact }p {0}", "fact # {0}", "fact fact {0}", "fact true {0}", "fact pp {0}", "fact p,q {0}", "fact \xff {0}", "fact p\t {0}", "fact p\t{0}",
		"agent p 0 {0}", "agent c 0 {0}", "agent 0 0 {0}", "agent A 0 {0}", "agent a,b 0 {0}", "agent agent 0 {0}", "agent # 0 {0}",
		"cells p", "cells c", "cells c {0}", "cells 0", "cells 0 {0}", "cells #", "cells cells",
		"fact r {x}", "fact r {3}", "fact r {1 0}", "fact b {}", "agent c 3 {0}", "agent c 999 {x}", "agent q 2 {1 0}", "cells c {x}", "cells q {9} {x}", "cells c {0} {0}",
	} {
		fails(t, "worlds 3\n"+line, 2, api.ErrName)
		fails(t, "#\nworlds 3\n\n  # {\nfact q {1}\n"+line+"\nfact\nworlds 2", 6, api.ErrName)
	}
	s := api.Signature{Agents: []string{"fact", "worlds"}, Facts: []string{"agent", "cells"}, Actions: []string{"act"}}
	m, line, e := modeltext.Parse(s, "worlds 2\nfact agent {1}\nfact cells {0}\nagent fact 0 {1}\ncells worlds {0 1}")
	if e != api.OK || line != 0 || !model.Same(m, api.Model{Worlds: 2, Val: []uint64{2, 1}, Rel: [][]uint64{{2, 0}, {3, 3}}}) {
		t.Error("names that are first words:", m, line, e)
	}
	for _, text := range []string{"fact act {0}", "agent act 0 {0}", "cells act", "fact fact {0}", "fact worlds {0}", "agent agent 0 {0}", "cells cells"} {
		if m, line, e := modeltext.Parse(s, "worlds 2\n"+text); e != api.ErrName || line != 2 || !isZero(m) {
			t.Errorf("%q is read as %v, %d, %d", text, m, line, e)
		}
	}
}

// TestItems is part of P14.2: the errors of numbers and sets, from left to right, before what stands in other lines.
func TestItems(t *testing.T) {
	for e, l := range map[int][]string{
		api.ErrRange: {
			"fact p {3}", "fact p {0 3}", "fact p {63}", "fact p {64}", "fact p {999999999}", "fact p {0 1 2 3}", "fact p {64 1}", "fact p {1 64 0}", "fact q {3}",
			"agent a 3 {0}", "agent a 4 {}", "agent a 63 {0}", "agent a 64 {0}", "agent a 100 {0}", "agent a 999 {0}", "agent a 3 {x}", "agent a 3 {1 0}", "agent a 9 {9}", "agent a 0 {3}", "agent b 2 {1 2 3}", "agent a 2 {64}", "agent b 0 {0}\nagent b 0 {3}", "agent b 0 {0}\nagent b 3 {0}",
			"cells a {3}", "cells a {0} {3}", "cells a {0}{1 64}{1 0}", "cells a {3} {x}", "cells a {0}{0}{3}", "cells b {0 1} {1 3}", "cells a\ncells a {3}", "cells a\nagent a 3 {0}", "cells a\nagent a 0 {3}", "fact p {0}\nfact p {3}",
		},
		api.ErrOrder: {
			"fact p {1 0}", "fact p {1 1}", "fact p {0 0}", "fact p {3 1}", "fact p {63 62}", "fact p {2 1 64}", "agent a 0 {1 0}", "agent b 2 {0 2 1}", "cells a {1 0}", "cells a {0} {2 1}", "cells a {0} {2 2} {3}", "cells a {0}{0}{2 1}{x}", "fact p {0}\nfact p {1 0}", "cells a\ncells a {1 0}",
		},
		api.ErrSyntax: {"agent a 2 {x}", "cells a {0} {x} {3}", "cells a {0}{0}{x}", "fact p {0}\nfact p {x}", "fact p {0}\nfact p", "cells a\nagent a 0 {x}", "agent a 0 {}\ncells a {x}", "cells a {x} {1 0}"},
		api.ErrName:   {"fact p {0}\nfact r {0}", "cells a\ncells c"},
	} {
		for _, line := range l {
			at := 2 + strings.Count(line, "\n")
			fails(t, "worlds 3\n"+line, at, e)
			fails(t, "worlds 3\n#\n"+line+"\nfact r {0}\nworlds 2", at+1, e)
		}
	}
	reads(t, "worlds 3\nfact p {0 1 2}\nagent a 2 {0 1 2}", api.Model{Worlds: 3, Val: []uint64{7, 0}, Rel: [][]uint64{{0, 0, 7}, {0, 0, 0}}})
	most := empty(64)
	most.Val[1], most.Rel[0][63] = 1<<63, 1<<63|1
	reads(t, "worlds 64\nfact q {63}\nagent a 63 {0 63}", most)
	fails(t, "worlds 64\nagent a 64 {0}", 2, api.ErrRange)
	fails(t, "worlds 64\nfact q {64}", 2, api.ErrRange)
}

// TestExist is part of P14.2: what has a line before, and sets of cells that have a world in common.
func TestExist(t *testing.T) {
	for _, line := range []string{
		"cells a {0 1} {1}", "cells a {0} {0}", "cells a {0}{1}{2}{0}", "cells b {0 1 2} {0 1 2}", "cells b {0} {} {1 2} {0 1}",
		"fact p {0}\nfact p {1}", "fact p {}\nfact p {}", "fact q {2}\nfact p {2}\nfact q {2}",
		"agent a 0 {}\nagent a 0 {}", "agent a 1 {2}\nagent a 0 {2}\nagent a 1 {2}", "agent a 1 {2}\ncells a", "agent a 2 {}\ncells a {0 1}", "agent b 0 {0}\ncells b {1 2}",
		"cells a\ncells a", "cells a {0}\ncells a {1}", "cells a {}\ncells a", "cells a\nagent a 0 {0}", "cells a {0}\nagent a 2 {2}", "cells b {0 1 2}\nagent b 1 {0 1 2}", "agent a 0 {}\ncells a {0} {0}",
	} {
		at := 2 + strings.Count(line, "\n")
		fails(t, "worlds 3\n"+line, at, api.ErrExist)
		fails(t, "#\nworlds 3\n"+line+"\nfact r {0}\nfact", at+1, api.ErrExist)
	}
	want := empty(3)
	want.Val[0], want.Val[1] = 1, 1
	reads(t, "worlds 3\nfact p {0}\nfact q {0}", want)
	want = empty(3)
	want.Rel = [][]uint64{{1, 2, 4}, {3, 3, 4}}
	reads(t, "worlds 3\ncells a\ncells b {0 1}", want)
	want.Rel = [][]uint64{{4, 0, 0}, {4, 1, 0}}
	reads(t, "worlds 3\nagent b 0 {2}\nagent a 0 {2}\nagent b 1 {0}", want)
	want.Rel = [][]uint64{{1, 6, 6}, {4, 0, 0}}
	reads(t, "worlds 3\nagent b 0 {2}\ncells a {1 2}\nagent b 2 {}", want)
}

// TestCells is P14.2: worlds in no set are alone.
func TestCells(t *testing.T) {
	for line, rel := range map[string][]uint64{
		"cells a":                   {1, 2, 4, 8},
		"cells a {}":                {1, 2, 4, 8},
		"cells a {} {}{}":           {1, 2, 4, 8},
		"cells a {2}":               {1, 2, 4, 8},
		"cells a {0}{1}{2}{3}":      {1, 2, 4, 8},
		"cells a {0 3}":             {9, 2, 4, 9},
		"cells a {1 2} {0 3}":       {9, 6, 6, 9},
		"cells a {} {3}{0 1 2}  {}": {7, 7, 7, 8},
		"cells a {0 1 2 3}":         {15, 15, 15, 15},
	} {
		want := empty(4)
		want.Rel[0] = rel
		reads(t, "worlds 4\n"+line, want)
	}
	want := empty(64)
	for w := range 64 {
		want.Rel[1][w] = 1 << w
	}
	want.Rel[1][63], want.Rel[1][0] = 1<<63|1, 1<<63|1
	reads(t, "worlds 64\ncells b {5}{0 63}", want)
}

// TestSignature is P14.2: the errors of the signature come first; agents and facts without lines.
func TestSignature(t *testing.T) {
	for want, l := range badSignatures() {
		for _, s := range l {
			for _, text := range []string{"", "worlds 3", "x", "worlds 1\nfact p {0}", strings.Repeat("#", 100001)} {
				if m, line, e := modeltext.Parse(s, text); e != want || line != 0 || !isZero(m) {
					t.Errorf("%v: %.20q is read as %v, %d, %d", s, text, m, line, e)
				}
			}
		}
	}
	for agents := range 5 {
		for facts := range 9 {
			m, line, e := modeltext.Parse(names(agents, facts), "worlds 5")
			if e != api.OK || line != 0 || model.Check(m) != api.OK || len(m.Rel) != agents || len(m.Val) != facts {
				t.Errorf("%d agents, %d facts: %v, %d, %d", agents, facts, m, line, e)
			}
		}
	}
}

// TestLength is P14.2: the greatest number of bytes.
func TestLength(t *testing.T) {
	for _, filler := range []string{"#", " ", "{", "\xff", "\n"} {
		most := "worlds 2\n#" + strings.Repeat(filler, 100000-10)
		reads(t, most, empty(2))
		fails(t, most+"\n", 0, api.ErrLimit)
		fails(t, "x"+most, 0, api.ErrLimit)
	}
	fails(t, strings.Repeat("\n", 100000), 0, api.ErrSyntax)
	fails(t, strings.Repeat("\n", 99999)+"x", 100000, api.ErrSyntax)
	fails(t, strings.Repeat("\n", 100000)+"x", 0, api.ErrLimit)
	reads(t, strings.Repeat("\n", 100000-8)+"worlds 7", empty(7))
	reads(t, "worlds"+strings.Repeat(" ", 100000-7)+"7", empty(7))
	same := empty(2)
	same.Rel[0] = []uint64{1, 2}
	reads(t, "worlds 2\ncells a"+strings.Repeat("{}", 49992), same)
	fails(t, "worlds 2\ncells a"+strings.Repeat("{0}", 33328), 2, api.ErrExist)
	fails(t, "worlds 2\nfact "+strings.Repeat("p", 90000)+" {}", 2, api.ErrName)
	fails(t, "worlds 2\n"+strings.Repeat("{", 90000), 2, api.ErrSyntax)
}
