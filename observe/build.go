package observe

import (
	"witting/api"
	"witting/boolean"
)

// tablesOf returns for each agent the truth tables of the formulas that it observes, or the error of the first formula that has one.
func tablesOf(n int, seen [][][]api.Node) ([][]uint64, int) {
	tables := make([][]uint64, len(seen))
	for agent, formulas := range seen {
		for _, f := range formulas {
			table, e := boolean.Table(f, n)
			if e != api.OK {
				return nil, e
			}
			tables[agent] = append(tables[agent], table)
		}
	}
	return tables, api.OK
}

// build returns the model of some valuations of n facts; each agent observes formulas with some truth tables.
func build(n int, valuations []int, tables [][]uint64) api.Model {
	m := api.Model{Worlds: len(valuations), Val: make([]uint64, n), Rel: make([][]uint64, len(tables))}
	for w, v := range valuations {
		for fact := range m.Val {
			m.Val[fact] |= uint64(v>>fact&1) << w
		}
	}
	for agent := range m.Rel {
		m.Rel[agent] = alike(valuations, tables[agent])
	}
	return m
}

// alike returns for each world the worlds with the same observation.
func alike(valuations []int, tables []uint64) []uint64 {
	worlds := map[int]uint64{}
	for w, v := range valuations {
		worlds[observation(v, tables)] |= 1 << w
	}
	r := make([]uint64, len(valuations))
	for w, v := range valuations {
		r[w] = worlds[observation(v, tables)]
	}
	return r
}

// observation returns the truth values of formulas at a valuation, as the bits of a number: observations are equal if these numbers are.
func observation(v int, tables []uint64) int {
	seen := 0
	for i, table := range tables {
		seen |= int(table>>v&1) << i
	}
	return seen
}
