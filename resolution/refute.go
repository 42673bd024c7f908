package resolution

import (
	"slices"

	"witting/api"
)

// search collects the lines of a refutation, each clause once.
type search struct {
	clauses [][]int
	lines   []api.Resolvent
	places  map[truths]int // for each clause of a line, as the truth values of its literals, the index of the line
}

// refute returns a line whose clause is false at truth values of all variables from open on, or -1 if the clauses can be satisfied there.
// A clause that is false in both cases of the last open variable needs no resolvent; in particular nothing follows the empty clause.
func (s *search) refute(t truths, open int) int {
	if i := slices.IndexFunc(s.clauses, t.refutes); i >= 0 {
		return s.add(api.Resolvent{Clause: slices.Clone(s.clauses[i]), Left: -1, Right: i})
	}
	if open == 0 {
		return -1
	}
	literal := open // that of the variable open - 1
	left := s.refute(t.with(-literal), open-1)
	if left < 0 || !slices.Contains(s.lines[left].Clause, literal) {
		return left
	}
	right := s.refute(t.with(literal), open-1)
	if right < 0 || !slices.Contains(s.lines[right].Clause, -literal) {
		return right
	}
	on := variable(literal)
	// All literals of the two clauses but those of the variable are false at t, so that no two are opposite.
	clause, _ := Resolve(s.lines[left].Clause, s.lines[right].Clause, on)
	return s.add(api.Resolvent{Clause: clause, Left: left, Right: right, On: on})
}

// add returns the index of a line with the clause of a line, which is appended unless there is one.
func (s *search) add(line api.Resolvent) int {
	key := truthsOf(line.Clause)
	place, found := s.places[key]
	if !found {
		place = len(s.lines)
		s.places[key] = place
		s.lines = append(s.lines, line)
	}
	return place
}

// isFormed reports whether the line at an index names a clause, or two earlier lines.
func isFormed(line api.Resolvent, index, clauses int) bool {
	if line.Left == -1 {
		return line.Right >= 0 && line.Right < clauses && line.On == 0
	}
	return line.Left >= 0 && line.Left < index && line.Right >= 0 && line.Right < index
}

// follows reports whether a line of a list is the clause that it names, or the resolvent of its earlier lines.
func follows(line api.Resolvent, l [][]int, p []api.Resolvent) bool {
	if line.Left == -1 {
		return slices.Equal(line.Clause, l[line.Right])
	}
	clause, e := Resolve(p[line.Left].Clause, p[line.Right].Clause, line.On)
	return e == api.OK && slices.Equal(line.Clause, clause)
}
