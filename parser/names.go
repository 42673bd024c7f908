package parser

import (
	"witting/api"
	"witting/signature"
)

// fact reads the name of a fact.
func (p *parser) fact() int {
	return p.add(api.Node{Op: api.OpFact, I: p.name(signature.Fact)})
}

// action reads the name of an action model.
func (p *parser) action() int {
	return p.name(signature.Action)
}

// agent reads the name of an agent.
func (p *parser) agent() int {
	return p.name(signature.Agent)
}

// agents reads agents = agent { "," agent }: the mask of different agents.
func (p *parser) agents() int {
	group := 1 << p.agent()
	for p.accept(",") {
		token := p.next
		agent := p.agent()
		if group>>agent&1 == 1 {
			p.fail(token, api.ErrExist)
		}
		group |= 1 << agent
	}
	return group
}

// name reads a name, and returns the number that it has; 0 after an error.
func (p *parser) name(find func(s api.Signature, name string) int) int {
	token := p.peek()
	if !isName(token) {
		p.fail(p.next, api.ErrSyntax)
		return 0
	}
	number := find(p.names, token)
	if number < 0 {
		p.fail(p.next, api.ErrName)
		return 0
	}
	p.next++
	return number
}

// isName reports whether a token may stand where a name stands, be it the name of something or not.
func isName(token string) bool {
	switch token {
	case "", "true", "false", "next", "prev", "until", "since", "K", "M", "S", "B", "E", "D", "C":
		return false
	}
	return isLetter(token[0])
}

// event reads the number of an event; 0 after an error.
func (p *parser) event() int {
	token := p.peek()
	if token == "" || !isDigit(token[0]) {
		p.fail(p.next, api.ErrSyntax)
		return 0
	}
	number := int(token[0] - '0')
	if len(token) > 1 || number >= api.MaxEvents {
		p.fail(p.next, api.ErrRange)
		return 0
	}
	p.next++
	return number
}
