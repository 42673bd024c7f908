package modeltext

import (
	"slices"
	"strings"

	"witting/api"
	"witting/signature"
	"witting/worldset"
)

// maxText is the greatest number of bytes of a text.
const maxText = 100000

// Parse reads a model: the error of signature.Check, ErrLimit, then the first error of a line, with its number.
func Parse(s api.Signature, text string) (m api.Model, line int, e int) {
	if e := signature.Check(s); e != api.OK {
		return api.Model{}, 0, e
	}
	if len(text) > maxText {
		return api.Model{}, 0, api.ErrLimit
	}
	r := reader{names: s, decided: map[string]uint64{}}
	for content := range strings.SplitSeq(text, "\n") {
		line++
		if e := r.line(content); e != api.OK {
			return api.Model{}, line, e
		}
	}
	if !r.begun() {
		return api.Model{}, 0, api.ErrSyntax
	}
	return r.model, 0, api.OK
}

// A reader makes the model of the lines that it reads one after the other, up to the first error.
type reader struct {
	names api.Signature
	model api.Model
	// decided contains, for the name of a fact or an agent, the worlds for which a line has said something. No fact has the name of an agent.
	decided map[string]uint64
}

// begun reports whether the worlds line was read.
func (r *reader) begun() bool {
	return r.model.Worlds > 0
}

// line reads a line.
func (r *reader) line(content string) int {
	if isIgnored(content) {
		return api.OK
	}
	items, closed := itemsOf(content)
	// The worlds line is the first one, and no other one.
	if !closed || r.begun() == (items[0] == worldsWord) {
		return api.ErrSyntax
	}
	rest := items[1:]
	switch items[0] {
	case worldsWord:
		if fit(rest, isNumber) {
			return r.worlds(rest[0])
		}
	case factWord:
		if fit(rest, isWord, isSet) {
			return r.fact(rest[0], rest[1])
		}
	case agentWord:
		if fit(rest, isWord, isNumber, isSet) {
			return r.agent(rest[0], rest[1], rest[2])
		}
	case cellsWord:
		if len(rest) > 0 && isWord(rest[0]) && !slices.ContainsFunc(rest[1:], isWord) {
			return r.cells(rest[0], rest[1:]...)
		}
	}
	return api.ErrSyntax
}

// worlds reads the worlds line: the number of worlds.
func (r *reader) worlds(number string) int {
	n := valueOf(number)
	if n < 1 || n > api.MaxWorlds {
		return api.ErrRange
	}
	r.model = api.Model{Worlds: n, Val: make([]uint64, len(r.names.Facts)), Rel: make([][]uint64, len(r.names.Agents))}
	for agent := range r.model.Rel {
		r.model.Rel[agent] = make([]uint64, n)
	}
	return api.OK
}

// fact reads a fact line: the worlds in which the fact is true.
func (r *reader) fact(name, text string) int {
	fact := signature.Fact(r.names, name)
	if fact < 0 {
		return api.ErrName
	}
	sets, e := r.sets(text)
	if e != api.OK {
		return e
	}
	if !r.decide(name, r.all()) {
		return api.ErrExist
	}
	r.model.Val[fact] = sets[0]
	return api.OK
}

// agent reads an agent line: the successors of a world.
func (r *reader) agent(name, number, text string) int {
	agent := signature.Agent(r.names, name)
	if agent < 0 {
		return api.ErrName
	}
	w := valueOf(number)
	if w >= r.model.Worlds {
		return api.ErrRange
	}
	sets, e := r.sets(text)
	if e != api.OK {
		return e
	}
	if !r.decide(name, 1<<w) {
		return api.ErrExist
	}
	r.model.Rel[agent][w] = sets[0]
	return api.OK
}

// cells reads a cells line: the sets of worlds that the agent does not tell apart. Each other world is a cell of its own.
func (r *reader) cells(name string, texts ...string) int {
	agent := signature.Agent(r.names, name)
	if agent < 0 {
		return api.ErrName
	}
	cells, e := r.sets(texts...)
	if e != api.OK {
		return e
	}
	if !r.decide(name, r.all()) {
		return api.ErrExist
	}
	left := r.all()
	for _, cell := range cells {
		if cell&^left != 0 {
			return api.ErrExist
		}
		left &^= cell
	}
	for _, w := range worldset.Members(left) {
		cells = append(cells, 1<<w)
	}
	for _, cell := range cells {
		for _, w := range worldset.Members(cell) {
			r.model.Rel[agent][w] = cell
		}
	}
	return api.OK
}

// sets reads sets of worlds of the model, from left to right.
func (r *reader) sets(texts ...string) ([]uint64, int) {
	sets := make([]uint64, len(texts))
	for i, text := range texts {
		set, e := worldset.Parse(text)
		if e != api.OK {
			return nil, e
		}
		if set&^r.all() != 0 {
			return nil, api.ErrRange
		}
		sets[i] = set
	}
	return sets, api.OK
}

// all returns the set of all worlds of the model.
func (r *reader) all() uint64 {
	return worldset.All(r.model.Worlds)
}

// decide notes that a line says something about a fact or an agent for a set of worlds, and reports whether it is the first one for each of them.
func (r *reader) decide(name string, worlds uint64) bool {
	if r.decided[name]&worlds != 0 {
		return false
	}
	r.decided[name] |= worlds
	return true
}
