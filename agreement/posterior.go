package agreement

import (
	"witting/api"
	"witting/partition"
	"witting/worldset"
)

// Posterior returns the probability that an agent gives to an event at a world: the error of Check, ErrRange.
func Posterior(p api.Prior, agent, world int, event uint64) (api.Fraction, int) {
	l, e := Posteriors(p, agent, event)
	if e != api.OK {
		return api.Fraction{}, e
	}
	if !hasWorld(p, world) {
		return api.Fraction{}, api.ErrRange
	}
	return l[world], api.OK
}

// Posteriors returns the probabilities that an agent gives to an event at all worlds: the error of Check, ErrRange.
func Posteriors(p api.Prior, agent int, event uint64) ([]api.Fraction, int) {
	if e := checkEvent(p, event); e != api.OK {
		return nil, e
	}
	if agent < 0 || agent >= len(p.Cells) {
		return nil, api.ErrRange
	}
	return posteriors(p, agent, event), api.OK
}

// Agree reports whether at a world all agents give an event the same probability: the error of Check, ErrRange.
func Agree(p api.Prior, world int, event uint64) (bool, int) {
	if e := checkEvent(p, event); e != api.OK {
		return false, e
	}
	if !hasWorld(p, world) {
		return false, api.ErrRange
	}
	for agent := range p.Cells {
		if posteriors(p, agent, event)[world] != posteriors(p, 0, event)[world] {
			return false, api.OK
		}
	}
	return true, api.OK
}

// posteriors returns the probabilities that an agent gives to an event at all worlds of a valid prior.
func posteriors(p api.Prior, agent int, event uint64) []api.Fraction {
	l := make([]api.Fraction, len(p.Weight))
	for w, cell := range partition.Relation(p.Cells[agent]) {
		l[w] = lowestTerms(weightOf(p, cell&event), weightOf(p, cell))
	}
	return l
}

// weightOf returns the weight of an event.
func weightOf(p api.Prior, event uint64) int {
	sum := 0
	for _, w := range worldset.Members(event) {
		sum += p.Weight[w]
	}
	return sum
}

// lowestTerms returns the fraction of two numbers, of which the second one is positive. Equal fractions are equal structs.
func lowestTerms(num, den int) api.Fraction {
	divisor, rest := den, num
	for rest != 0 {
		divisor, rest = rest, divisor%rest
	}
	return api.Fraction{Num: num / divisor, Den: den / divisor}
}
