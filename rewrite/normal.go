package rewrite

import "witting/api"

// duals contains the operators that a negation changes into each other when it moves inward, and 0 for all others.
var duals = [...]int{
	api.OpTrue: api.OpFalse, api.OpFalse: api.OpTrue,
	api.OpAnd: api.OpOr, api.OpOr: api.OpAnd,
	api.OpKnow: api.OpPoss, api.OpPoss: api.OpKnow,
	api.OpSince: 0,
}

// normalizer keeps the places of the normal form of each node, and of that of its negation.
type normalizer struct {
	*builder
	forms     []int
	negations []int
}

// form returns the place of the normal form of the next node.
func (r *normalizer) form(n api.Node) int {
	switch n.Op {
	case api.OpNot:
		return r.negations[n.X]
	case api.OpImp:
		return r.join(api.OpOr, r.negations[n.X], r.forms[n.Y])
	case api.OpIff:
		forth := r.join(api.OpOr, r.negations[n.X], r.forms[n.Y])
		back := r.join(api.OpOr, r.forms[n.X], r.negations[n.Y])
		return r.join(api.OpAnd, forth, back)
	}
	return r.add(withOperands(n, r.forms))
}

// negated returns the place of the normal form of the negation of the next node.
func (r *normalizer) negated(n api.Node) int {
	switch n.Op {
	case api.OpNot:
		return r.forms[n.X]
	case api.OpImp:
		return r.join(api.OpAnd, r.forms[n.X], r.negations[n.Y])
	case api.OpIff:
		first := r.join(api.OpAnd, r.forms[n.X], r.negations[n.Y])
		second := r.join(api.OpAnd, r.negations[n.X], r.forms[n.Y])
		return r.join(api.OpOr, first, second)
	}
	if dual := duals[n.Op]; dual != 0 {
		n.Op = dual
		return r.add(withOperands(n, r.negations))
	}
	return r.not(r.form(n))
}
