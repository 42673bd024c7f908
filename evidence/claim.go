package evidence

import (
	"slices"

	"witting/api"
	"witting/worldset"
)

// A claim says that the formula of a node holds at a world, or that it does not.
type claim struct {
	world, node int
	holds       bool
}

// opposite returns the claim of the other truth value.
func (c claim) opposite() claim {
	c.holds = !c.holds
	return c
}

// claimOf returns what a step claims.
func claimOf(r api.Reason) claim {
	return claim{r.World, r.Node, r.Holds}
}

// premisesOf returns what the premises of a step claim.
func premisesOf(e api.Evidence, r api.Reason) []claim {
	l := make([]claim, 0, len(r.From))
	for _, from := range r.From {
		l = append(l, claimOf(e.Steps[from]))
	}
	return l
}

// scene is a valid model, with the canonical list of a static formula that fits it.
type scene struct {
	model api.Model
	nodes []api.Node
}

// isStep reports whether a step with this index has the right form.
func (s scene) isStep(r api.Reason, index int) bool {
	if r.World < 0 || r.World >= s.model.Worlds || r.Node < 0 || r.Node >= len(s.nodes) {
		return false
	}
	if slices.ContainsFunc(r.From, func(from int) bool { return from < 0 || from >= index }) {
		return false
	}
	if r.Holds && s.nodes[r.Node].Op == api.OpCommon {
		return r.Set&^worldset.All(s.model.Worlds) == 0
	}
	return r.Set == 0
}
