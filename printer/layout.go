package printer

import "witting/api"

// Kinds of layouts: what the text of a node consists of.
const (
	constant     = iota // the word
	fact                // the name of the fact
	before              // the word, X
	between             // X, the word, Y
	ofAgents            // the word, the agents in brackets, X
	ofAgentsIf          // the word, the agents and X in brackets, Y
	announcement        // the word and X in brackets, Y
	event               // the action model, the word and the event in brackets, X
)

// top is the level of what never needs parentheses.
const top = 5

// layout says how the nodes with an operator are written.
type layout struct {
	kind  int
	word  string
	level int
	x     int // the level that is required of X
	y     int // the level that is required of Y
}

// layouts contains the layout of each operator.
// An operator between two operands requires a higher level of the operand on the side to which it does not group.
var layouts = [...]layout{
	api.OpTrue:     {kind: constant, word: "true", level: top},
	api.OpFalse:    {kind: constant, word: "false", level: top},
	api.OpFact:     {kind: fact, level: top},
	api.OpNot:      {kind: before, word: "~", level: top, x: top},
	api.OpAnd:      {kind: between, word: "&", level: 4, x: 4, y: 5},
	api.OpOr:       {kind: between, word: "|", level: 3, x: 3, y: 4},
	api.OpImp:      {kind: between, word: "->", level: 1, x: 2, y: 1},
	api.OpIff:      {kind: between, word: "<->", level: 0, x: 0, y: 1},
	api.OpKnow:     {kind: ofAgents, word: "K", level: top, x: top},
	api.OpPoss:     {kind: ofAgents, word: "M", level: top, x: top},
	api.OpEvery:    {kind: ofAgents, word: "E", level: top, x: top},
	api.OpDist:     {kind: ofAgents, word: "D", level: top, x: top},
	api.OpCommon:   {kind: ofAgentsIf, word: "C", level: top, x: 0, y: top},
	api.OpBelief:   {kind: ofAgentsIf, word: "B", level: top, x: 0, y: top},
	api.OpSafe:     {kind: ofAgents, word: "S", level: top, x: top},
	api.OpAnnounce: {kind: announcement, word: "!", level: top, x: 0, y: top},
	api.OpAct:      {kind: event, word: ".", level: top, x: top},
	api.OpNext:     {kind: before, word: "next ", level: top, x: top},
	api.OpUntil:    {kind: between, word: "until", level: 2, x: 3, y: 2},
	api.OpPrev:     {kind: before, word: "prev ", level: top, x: top},
	api.OpSince:    {kind: between, word: "since", level: 2, x: 3, y: 2},
}
