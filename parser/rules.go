package parser

import "witting/api"

// formula reads formula = implies { "<->" implies }.
func (p *parser) formula() int {
	return p.leftward("<->", api.OpIff, p.implies)
}

// implies reads implies = time ( "->" implies )?.
func (p *parser) implies() int {
	x := p.time()
	if p.accept("->") {
		return p.add(api.Node{Op: api.OpImp, X: x, Y: p.implies()})
	}
	return x
}

// time reads time = or ( ("until" | "since") time )?.
func (p *parser) time() int {
	x := p.or()
	if p.accept("until") {
		return p.add(api.Node{Op: api.OpUntil, X: x, Y: p.time()})
	}
	if p.accept("since") {
		return p.add(api.Node{Op: api.OpSince, X: x, Y: p.time()})
	}
	return x
}

// or reads or = and { "|" and }.
func (p *parser) or() int {
	return p.leftward("|", api.OpOr, p.and)
}

// and reads and = prefix { "&" prefix }.
func (p *parser) and() int {
	return p.leftward("&", api.OpAnd, p.prefix)
}

// leftward reads operands with a sign between them, which groups to the left.
func (p *parser) leftward(sign string, op int, operand func() int) int {
	x := operand()
	for p.accept(sign) {
		x = p.add(api.Node{Op: op, X: x, Y: operand()})
	}
	return x
}

// prefix reads the rule prefix: its alternatives differ in their first token.
func (p *parser) prefix() int {
	switch p.peek() {
	case "~":
		return p.plain(api.OpNot)
	case "next":
		return p.plain(api.OpNext)
	case "prev":
		return p.plain(api.OpPrev)
	case "K":
		return p.ofAgent(api.OpKnow)
	case "M":
		return p.ofAgent(api.OpPoss)
	case "S":
		return p.ofAgent(api.OpSafe)
	case "B":
		return p.belief()
	case "E":
		return p.ofGroup(api.OpEvery)
	case "D":
		return p.ofGroup(api.OpDist)
	case "C":
		return p.common()
	case "[":
		return p.update()
	case "true":
		return p.constant(api.OpTrue)
	case "false":
		return p.constant(api.OpFalse)
	case "(":
		return p.enclosed()
	}
	return p.fact()
}

// plain reads ~, next or prev, and the operand.
func (p *parser) plain(op int) int {
	p.next++
	return p.add(api.Node{Op: op, X: p.prefix()})
}

// constant reads true or false.
func (p *parser) constant(op int) int {
	p.next++
	return p.add(api.Node{Op: op})
}

// enclosed reads "(" formula ")".
func (p *parser) enclosed() int {
	p.next++
	f := p.formula()
	p.expect(")")
	return f
}

// ofAgent reads K, M or S, "[" agent "]" and the operand.
func (p *parser) ofAgent(op int) int {
	p.next++
	p.expect("[")
	agent := p.agent()
	p.expect("]")
	return p.add(api.Node{Op: op, I: agent, X: p.prefix()})
}

// ofGroup reads E or D, "[" agents "]" and the operand.
func (p *parser) ofGroup(op int) int {
	p.next++
	p.expect("[")
	group := p.agents()
	p.expect("]")
	return p.add(api.Node{Op: op, G: group, X: p.prefix()})
}

// belief reads "B" "[" agent ( "|" formula )? "]" and the operand.
func (p *parser) belief() int {
	p.next++
	p.expect("[")
	agent := p.agent()
	x := p.condition()
	p.expect("]")
	return p.add(api.Node{Op: api.OpBelief, I: agent, X: x, Y: p.prefix()})
}

// common reads "C" "[" agents ( "|" formula )? "]" and the operand.
func (p *parser) common() int {
	p.next++
	p.expect("[")
	group := p.agents()
	x := p.condition()
	p.expect("]")
	return p.add(api.Node{Op: api.OpCommon, G: group, X: x, Y: p.prefix()})
}

// condition reads ( "|" formula )?, which is true if there is none.
func (p *parser) condition() int {
	if p.accept("|") {
		return p.formula()
	}
	return p.add(api.Node{Op: api.OpTrue})
}

// update reads "[" "!" formula "]" or "[" action "." number "]", and the operand.
func (p *parser) update() int {
	p.next++
	if p.accept("!") {
		x := p.formula()
		p.expect("]")
		return p.add(api.Node{Op: api.OpAnnounce, X: x, Y: p.prefix()})
	}
	action := p.action()
	p.expect(".")
	event := p.event()
	p.expect("]")
	return p.add(api.Node{Op: api.OpAct, I: action, E: event, X: p.prefix()})
}
