package modeltext_test

import (
	"math/rand/v2"
	"regexp"
	"slices"
	"strconv"
	"strings"
	"testing"

	"witting/api"
	"witting/model"
	"witting/modeltext"
	"witting/worldset"
)

// The lines of the chapter's table. A word may touch a set behind it, and sets may touch each other.
var (
	ignoredLine = regexp.MustCompile(`^ *(#.*)?$`)
	worldsLine  = regexp.MustCompile(`^ *worlds +(0|[1-9][0-9]{0,2}) *$`)
	factLine    = regexp.MustCompile(`^ *fact +([^ {]+) *(\{[^}]*\}) *$`)
	agentLine   = regexp.MustCompile(`^ *agent +([^ {]+) +(0|[1-9][0-9]{0,2}) *(\{[^}]*\}) *$`)
	cellsLine   = regexp.MustCompile(`^ *cells +([^ {]+) *((\{[^}]*\} *)*)$`)
	setItem     = regexp.MustCompile(`\{[^}]*\}`)
)

// A fact line, an agent line or a cells line of the reference: the number of the fact or the agent, and the sets.
type said struct {
	kind   byte
	number int
	world  int
	sets   []uint64
}

// matchLine finds the parts of a line behind the first one: its kind, name, number and sets. The kind is 0 if it is none of the table.
func matchLine(line string) (kind byte, name, number string, sets []string) {
	if l := worldsLine.FindStringSubmatch(line); l != nil {
		return 'w', "", l[1], nil
	}
	if l := factLine.FindStringSubmatch(line); l != nil {
		return 'f', l[1], "0", l[2:3]
	}
	if l := agentLine.FindStringSubmatch(line); l != nil {
		return 'a', l[1], l[2], l[3:4]
	}
	if l := cellsLine.FindStringSubmatch(line); l != nil {
		return 'c', l[1], "0", setItem.FindAllString(l[2], -1)
	}
	return 0, "", "", nil
}

// sayLine returns what a line says, with the first error of P14.2.
func sayLine(s api.Signature, worlds int, before []said, line string) (said, int) {
	kind, name, number, sets := matchLine(line)
	if kind == 0 || (kind == 'w') != (worlds == 0) {
		return said{}, api.ErrSyntax
	}
	l := said{kind: kind}
	l.world, _ = strconv.Atoi(number)
	if kind == 'w' {
		if l.world < 1 || l.world > 64 {
			return said{}, api.ErrRange
		}
		return l, api.OK
	}
	l.number = slices.Index(s.Agents, name)
	if kind == 'f' {
		l.number = slices.Index(s.Facts, name)
	}
	if l.number < 0 {
		return said{}, api.ErrName
	}
	if l.world >= worlds {
		return said{}, api.ErrRange
	}
	union, common := uint64(0), false
	for _, text := range sets {
		set, e := worldset.Parse(text)
		if e != api.OK {
			return said{}, e
		}
		for w := worlds; w < 64; w++ {
			if set>>w&1 == 1 {
				return said{}, api.ErrRange
			}
		}
		common = common || union&set != 0
		union |= set
		l.sets = append(l.sets, set)
	}
	if common || slices.ContainsFunc(before, func(other said) bool { return excludes(other, l) }) {
		return said{}, api.ErrExist
	}
	return l, api.OK
}

// excludes reports whether a line may not stand behind another one.
func excludes(before, l said) bool {
	if before.number != l.number || (before.kind == 'f') != (l.kind == 'f') {
		return false
	}
	return before.kind != 'a' || l.kind != 'a' || before.world == l.world
}

// say adds to a model what a line says.
func say(m *api.Model, l said) {
	switch l.kind {
	case 'f':
		m.Val[l.number] = l.sets[0]
	case 'a':
		m.Rel[l.number][l.world] = l.sets[0]
	case 'c':
		for w := range m.Worlds {
			m.Rel[l.number][w] = 1 << w
			for _, set := range l.sets {
				if set>>w&1 == 1 {
					m.Rel[l.number][w] = set
				}
			}
		}
	}
}

// reference reads a text as P14.2 says, by regular expressions.
func reference(s api.Signature, text string) (api.Model, int, int) {
	if len(text) > 100000 {
		return api.Model{}, 0, api.ErrLimit
	}
	m, before := api.Model{}, []said{}
	for i, line := range strings.Split(text, "\n") {
		if ignoredLine.MatchString(line) {
			continue
		}
		l, e := sayLine(s, m.Worlds, before, line)
		if e != api.OK {
			return api.Model{}, i + 1, e
		}
		if l.kind == 'w' {
			m = api.Model{Worlds: l.world, Val: make([]uint64, len(s.Facts))}
			for range s.Agents {
				m.Rel = append(m.Rel, make([]uint64, l.world))
			}
			continue
		}
		say(&m, l)
		before = append(before, l)
	}
	if m.Worlds == 0 {
		return api.Model{}, 0, api.ErrSyntax
	}
	return m, 0, api.OK
}

// agrees tests a text against the reference, and returns its error.
func agrees(t *testing.T, text string) int {
	t.Helper()
	s := names(2, 2)
	m, line, e := modeltext.Parse(s, text)
	want, wantLine, wantError := reference(s, text)
	if e != wantError || line != wantLine || !model.Same(m, want) {
		t.Fatalf("%q is read as %v, %d, %d, not as %v, %d, %d", text, m, line, e, want, wantLine, wantError)
	}
	if e == api.OK {
		again, _, back := modeltext.Parse(s, strings.Join(textOf(s, m), "\n"))
		if model.Check(m) != api.OK || back != api.OK || !model.Same(again, m) {
			t.Fatalf("%q is read as %v, and comes back as %v", text, m, again)
		}
	}
	return e
}

// randomLine returns a line that is often one of the table.
func randomLine(r *rand.Rand) string {
	pick := func(l ...string) string { return l[r.IntN(len(l))] }
	space := func() string { return pick(" ", " ", " ", "  ", "   ") }
	gap := func() string { return pick(" ", " ", "", "  ") }
	set := func() string {
		return pick("{}", "{0}", "{1}", "{2}", "{3}", "{0 1}", "{0 2}", "{1 2}", "{0 1 2}", setText(r.Uint64()&63&r.Uint64()), setText(1<<r.IntN(5)), pick("{1 0}", "{ }", "{x}", "{{}", "{64}", "{63}", "{00}", "{5 5}"))
	}
	number := func() string { return pick("0", "1", "2", "0", "1", "2", "3", "4", "64", "999", "00", "1000") }
	line := ""
	switch r.IntN(8) {
	case 0, 1:
		line = "fact" + space() + pick("p", "q", "p", "q", "p", "q", "r", "a") + gap() + set()
	case 2, 3, 4:
		line = "agent" + space() + pick("a", "b", "a", "b", "a", "b", "c", "p") + space() + number() + gap() + set()
	case 5, 6:
		line = "cells" + space() + pick("a", "b", "a", "b", "a", "b", "c", "p")
		for range r.IntN(4) {
			line += gap() + set()
		}
	default:
		line = pick("", "#", "# {", "  #{}", "#worlds 3", "worlds 3", " ", "{}", "fact", "agent")
	}
	return pick("", "", "", " ") + line + pick("", "", "", " ", "  ")
}

// damage changes a byte of a text, takes it out, or adds one.
func damage(r *rand.Rand, text string) string {
	const signs = " {}#0123x\n\t"
	at := r.IntN(len(text) + 1)
	sign := string(signs[r.IntN(len(signs))])
	switch end := min(at+1, len(text)); r.IntN(3) {
	case 0:
		return text[:at] + text[end:]
	case 1:
		return text[:at] + sign + text[end:]
	}
	return text[:at] + sign + text[at:]
}

// TestReference is P14.2 and P14.4: random texts, most of which have no error or a late one.
func TestReference(t *testing.T) {
	r := rand.New(rand.NewPCG(14, 2))
	counts := map[int]int{}
	for range 40000 {
		l := []string{"worlds " + strconv.Itoa(1+r.IntN(6))}
		for range r.IntN(6) {
			l = append(l, randomLine(r))
		}
		text := strings.Join(l, "\n")
		if r.IntN(2) == 0 {
			text = damage(r, text)
		}
		counts[agrees(t, text)]++
	}
	for _, e := range []int{api.OK, api.ErrSyntax, api.ErrName, api.ErrRange, api.ErrOrder, api.ErrExist} {
		if counts[e] < 400 {
			t.Errorf("only %d texts have the error %d", counts[e], e)
		}
	}
}

// FuzzParse is P14.2 and P14.4, and P1 of DOC.md: any text has the result of the reference.
func FuzzParse(f *testing.F) {
	for _, text := range []string{
		"", "worlds 3\nfact p {0 2}\ncells a {0 1}\nagent b 2 {0 2}\n", "worlds 65", "fact p {0}", "worlds 2\nfact r {0}", "worlds 2\nfact p {2}", "worlds 2\nfact p {1 0}", "worlds 2\ncells a {0 1} {1}",
		"#{\nworlds 1", "worlds 1\nfact p{}\nfact p{0", "worlds 1\nagent a 0{0}\ncells a", "\xff{\xfe}\x00", "worlds 64\ncells b{}{0 63}{62}#",
	} {
		f.Add(text)
	}
	f.Fuzz(func(t *testing.T, text string) { agrees(t, text) })
}
