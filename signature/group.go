package signature

import (
	"slices"
	"strings"

	"witting/api"
)

// Group returns the mask of a group: the error of Check, ErrArg, ErrNone, ErrExist.
func Group(s api.Signature, names []string) (int, int) {
	if e := Check(s); e != api.OK {
		return 0, e
	}
	if len(names) == 0 {
		return 0, api.ErrArg
	}
	group := 0
	for _, name := range names {
		agent := slices.Index(s.Agents, name)
		if agent < 0 {
			return 0, api.ErrNone
		}
		if group>>agent&1 == 1 {
			return 0, api.ErrExist
		}
		group |= 1 << agent
	}
	return group, api.OK
}

// Text returns the names of a group, separated by commas: the error of Check, ErrRange.
func Text(s api.Signature, group int) (string, int) {
	if e := Check(s); e != api.OK {
		return "", e
	}
	if group < 1 || group >= 1<<len(s.Agents) {
		return "", api.ErrRange
	}
	var names []string
	for agent, name := range s.Agents {
		if group>>agent&1 == 1 {
			names = append(names, name)
		}
	}
	return strings.Join(names, ","), api.OK
}

// Parse returns the group of names that are separated by commas: the error of Check, ErrSyntax, ErrNone, ErrExist.
func Parse(s api.Signature, text string) (int, int) {
	if e := Check(s); e != api.OK {
		return 0, e
	}
	names := strings.Split(text, ",")
	for _, name := range names {
		if !IsName(name) {
			return 0, api.ErrSyntax
		}
	}
	return Group(s, names)
}
