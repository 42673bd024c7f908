package evidence_test

import (
	"slices"
	"strconv"
	"strings"

	"witting/api"
)

// leads reports whether v is a successor of w that counts for a modal node.
func leads(m api.Model, n api.Node, w, v int) bool {
	some, all := false, true
	for a, successors := range m.Rel {
		if n.Op == api.OpKnow || n.Op == api.OpPoss {
			if a == n.I {
				return has(successors[w], v)
			}
		} else if n.G>>a&1 == 1 {
			some = some || has(successors[w], v)
			all = all && has(successors[w], v)
		}
	}
	if n.Op == api.OpDist {
		return all
	}
	return some
}

// truth is the definition of layer 17: whether the formula of a node holds at a world.
func truth(m api.Model, f []api.Node, node, w int) bool {
	n := f[node]
	x := func(v int) bool { return truth(m, f, n.X, v) }
	y := func(v int) bool { return truth(m, f, n.Y, v) }
	switch n.Op {
	case api.OpTrue:
		return true
	case api.OpFalse:
		return false
	case api.OpFact:
		return has(m.Val[n.I], w)
	case api.OpNot:
		return !x(w)
	case api.OpAnd:
		return x(w) && y(w)
	case api.OpOr:
		return x(w) || y(w)
	case api.OpImp:
		return !x(w) || y(w)
	case api.OpIff:
		return x(w) == y(w)
	case api.OpCommon:
		return common(m, n, w, x, y, map[int]bool{})
	}
	for v := range m.Worlds {
		if leads(m, n, w, v) && x(v) == (n.Op == api.OpPoss) {
			return n.Op == api.OpPoss
		}
	}
	return n.Op != api.OpPoss
}

// common reports whether y holds at the end of all paths along worlds of x.
func common(m api.Model, n api.Node, w int, x, y func(v int) bool, seen map[int]bool) bool {
	for v := range m.Worlds {
		if !leads(m, n, w, v) || seen[v] || !x(v) {
			continue
		}
		seen[v] = true
		if !y(v) || !common(m, n, v, x, y, seen) {
			return false
		}
	}
	return true
}

// said is a claim as a row of the chapter's table has it.
type said struct {
	world, node int
	yes         bool
}

// follows is the chapter's table: whether the claim of a step follows from claims, in a formula with these nodes.
func follows(m api.Model, f []api.Node, r api.Reason, from []said) bool {
	n, w := f[r.Node], r.World
	is := func(l ...said) bool { return slices.Equal(from, l) }
	x := func(yes bool) said { return said{w, n.X, yes} }
	y := func(yes bool) said { return said{w, n.Y, yes} }
	switch n.Op {
	case api.OpTrue:
		return r.Holds && is()
	case api.OpFalse:
		return !r.Holds && is()
	case api.OpFact:
		return r.Holds == has(m.Val[n.I], w) && is()
	case api.OpNot:
		return r.Holds && is(x(false)) || !r.Holds && is(x(true))
	case api.OpAnd:
		return r.Holds && is(x(true), y(true)) || !r.Holds && (is(x(false)) || is(y(false)))
	case api.OpOr:
		return r.Holds && (is(x(true)) || is(y(true))) || !r.Holds && is(x(false), y(false))
	case api.OpImp:
		return r.Holds && (is(x(false)) || is(y(true))) || !r.Holds && is(x(true), y(false))
	case api.OpIff:
		if r.Holds {
			return is(x(true), y(true)) || is(x(false), y(false))
		}
		return is(x(true), y(false)) || is(x(false), y(true))
	case api.OpCommon:
		return r.Holds && staysInside(m, n, r, from) || !r.Holds && leadsOut(m, n, w, from)
	}
	return followsModal(m, n, r, from)
}

// followsModal is follows for Know, Poss, Every and Dist.
func followsModal(m api.Model, n api.Node, r api.Reason, from []said) bool {
	each := []said{}
	for v := range m.Worlds {
		if leads(m, n, r.World, v) {
			each = append(each, said{v, n.X, r.Holds})
		}
	}
	if r.Holds == (n.Op == api.OpPoss) {
		return len(from) == 1 && slices.Contains(each, from[0])
	}
	return slices.Equal(each, from)
}

// staysInside is the last row of the table.
func staysInside(m api.Model, n api.Node, r api.Reason, from []said) bool {
	want := []said{}
	for v := range m.Worlds {
		if has(r.Set, v) {
			want = append(want, said{v, n.Y, true})
		}
	}
	for v := range m.Worlds {
		next := leads(m, n, r.World, v)
		for u := range m.Worlds {
			next = next || has(r.Set, u) && leads(m, n, u, v)
		}
		if next && !has(r.Set, v) {
			want = append(want, said{v, n.X, false})
		}
	}
	return slices.Equal(want, from)
}

// leadsOut is the row of the table before the last one.
func leadsOut(m api.Model, n api.Node, w int, from []said) bool {
	if len(from) < 2 {
		return false
	}
	for _, s := range from[:len(from)-1] {
		if s.node != n.X || !s.yes || !leads(m, n, w, s.world) {
			return false
		}
		w = s.world
	}
	return from[len(from)-1] == said{w, n.Y, false}
}

// codeOf is P18.1 for a model and a static formula, which is a canonical list, without errors.
func codeOf(m api.Model, f []api.Node, e api.Evidence) int {
	if len(e.Steps) == 0 {
		return api.ErrForm
	}
	for i, r := range e.Steps {
		if r.World < 0 || r.World >= m.Worlds || r.Node < 0 || r.Node >= len(f) || r.Set&^worldsBelow(m.Worlds) != 0 {
			return api.ErrForm
		}
		for _, from := range r.From {
			if from < 0 || from >= i {
				return api.ErrForm
			}
		}
		if r.Set != 0 && (!r.Holds || f[r.Node].Op != api.OpCommon) {
			return api.ErrForm
		}
	}
	for _, r := range e.Steps {
		from := []said{}
		for _, i := range r.From {
			p := e.Steps[i]
			from = append(from, said{p.World, p.Node, p.Holds})
		}
		if !follows(m, f, r, from) {
			return api.ErrProof
		}
	}
	return api.OK
}

// textOf is P18.3 for steps, with the texts of the nodes.
func textOf(e api.Evidence, texts []string) string {
	var s strings.Builder
	for i, r := range e.Steps {
		s.WriteString(strconv.Itoa(i) + ": world " + strconv.Itoa(r.World) + ": " + texts[r.Node] + map[bool]string{true: " holds", false: " fails"}[r.Holds])
		for j, from := range r.From {
			if j == 0 {
				s.WriteString(" by")
			}
			s.WriteString(" " + strconv.Itoa(from))
		}
		s.WriteString("\n")
	}
	return s.String()
}
