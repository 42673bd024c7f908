package parser

import (
	"strings"

	"witting/api"
)

// grammar is the chapter's grammar, with repetition by recursion and the optional parts written out.
const grammar = `
formula = implies
formula = formula <-> implies
implies = time
implies = time -> implies
time = or
time = or until time
time = or since time
or = and
or = or | and
and = prefix
and = and & prefix
prefix = ~ prefix
prefix = next prefix
prefix = prev prefix
prefix = K [ NAME ] prefix
prefix = M [ NAME ] prefix
prefix = S [ NAME ] prefix
prefix = B [ NAME ] prefix
prefix = B [ NAME | formula ] prefix
prefix = E [ agents ] prefix
prefix = D [ agents ] prefix
prefix = C [ agents ] prefix
prefix = C [ agents | formula ] prefix
prefix = [ ! formula ] prefix
prefix = [ NAME . NUMBER ] prefix
prefix = true
prefix = false
prefix = NAME
prefix = ( formula )
agents = NAME
agents = agents , NAME
`

// rules returns the right sides of the grammar by their left sides.
func rules() map[string][][]string {
	m := map[string][][]string{}
	for _, line := range strings.Split(strings.TrimSpace(grammar), "\n") {
		parts := strings.Fields(line)
		m[parts[0]] = append(m[parts[0]], parts[2:])
	}
	return m
}

// item is a place in a rule that was begun at an index.
type item struct {
	left    string
	rule    int
	dot     int
	started int
}

// column is a set of items, with the order in which they were found.
type column struct {
	items []item
	seen  map[item]bool
}

func (c *column) add(i item) {
	if !c.seen[i] {
		c.seen[i] = true
		c.items = append(c.items, i)
	}
}

// table is an Earley table: column i has the items that are possible behind i tokens.
type table struct {
	rules   map[string][][]string
	columns []*column
}

// newTable returns the table of no tokens.
func newTable() *table {
	t := &table{rules: rules()}
	c := &column{seen: map[item]bool{}}
	for i := range t.rules["formula"] {
		c.add(item{"formula", i, 0, 0})
	}
	t.columns = append(t.columns, c)
	t.complete()
	return t
}

// next returns the symbol behind the dot, or "".
func (t *table) next(i item) string {
	if right := t.rules[i.left][i.rule]; i.dot < len(right) {
		return right[i.dot]
	}
	return ""
}

// complete predicts and completes in the last column. (No rule is empty, so that one pass is enough.)
func (t *table) complete() {
	last := len(t.columns) - 1
	c := t.columns[last]
	for n := 0; n < len(c.items); n++ {
		i := c.items[n]
		symbol := t.next(i)
		for rule := range t.rules[symbol] {
			c.add(item{symbol, rule, 0, last})
		}
		if symbol != "" {
			continue
		}
		for _, j := range t.columns[i.started].items {
			if t.next(j) == i.left {
				j.dot++
				c.add(j)
			}
		}
	}
}

// with returns the table behind one more token, and whether the tokens are the beginning of a text.
func (t *table) with(token string) (*table, bool) {
	c := &column{seen: map[item]bool{}}
	for _, i := range t.columns[len(t.columns)-1].items {
		if t.next(i) == class(token) {
			i.dot++
			c.add(i)
		}
	}
	longer := &table{rules: t.rules, columns: append(t.columns[:len(t.columns):len(t.columns)], c)}
	longer.complete()
	return longer, len(c.items) > 0
}

// whole reports whether the tokens are a text.
func (t *table) whole() bool {
	for _, i := range t.columns[len(t.columns)-1].items {
		if i.left == "formula" && i.started == 0 && t.next(i) == "" {
			return true
		}
	}
	return false
}

// class returns the symbol of a token in the grammar.
func class(token string) string {
	switch {
	case strings.Contains(" true false next prev until since K M S B E D C ", " "+token+" "):
		return token
	case token[0] >= '0' && token[0] <= '9':
		return "NUMBER"
	case strings.ContainsAny(token[:1], "~&|()[],.!<-"):
		return token
	}
	return "NAME"
}

// nameError returns the error of the last of some tokens, which are the beginning of a text.
func nameError(s api.Signature, tokens []string) int {
	last := len(tokens) - 1
	token := tokens[last]
	before := func(i int) string {
		if i > last {
			return ""
		}
		return tokens[last-i]
	}
	switch class(token) {
	case "NUMBER":
		if len(token) > 1 || token > "7" {
			return api.ErrRange
		}
	case "NAME":
		names := s.Facts
		if before(1) == "," || before(1) == "[" && last > 1 && strings.Contains("KMSBEDC", before(2)) {
			names = s.Agents
		} else if before(1) == "[" {
			names = s.Actions
		}
		if !strings.Contains(" "+strings.Join(names, " ")+" ", " "+token+" ") {
			return api.ErrName
		}
		for i := 1; before(i) == ","; i += 2 {
			if before(i+1) == token {
				return api.ErrExist
			}
		}
	}
	return api.OK
}

// firstError returns the error of some tokens and the index of its token.
func firstError(s api.Signature, tokens []string) (int, int) {
	t := newTable()
	for i, token := range tokens {
		longer, possible := t.with(token)
		if !possible {
			return i, api.ErrSyntax
		}
		if e := nameError(s, tokens[:i+1]); e != api.OK {
			return i, e
		}
		t = longer
	}
	if !t.whole() {
		return len(tokens), api.ErrSyntax
	}
	return 0, api.OK
}
