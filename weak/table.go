package weak

import (
	"semblance/api"
	"semblance/system"
)

// silentOf tells of each state those that come from it by silent steps, none or more.
func silentOf(s api.System) ([]row, error) {
	if err := system.Check(s); err != nil {
		return nil, fault(err)
	}
	if s.States > api.MaxPairs {
		return nil, fault(api.ErrLong)
	}
	silent := emptyRows(s.States)
	for state, ends := range silent {
		ends.add(state)
	}
	for _, edge := range s.Edges {
		if edge.Label == api.Tau {
			silent[edge.From].add(edge.To)
		}
	}
	// After a state's turn all ways are known that pass through no other states than those that have had theirs.
	for via, behind := range silent {
		joinWhere(silent, func(state int) bool { return silent[state].has(via) }, behind)
	}
	return silent, nil
}

// joinWhere joins a set to the rows of those states of which something holds.
func joinWhere(rows []row, holds func(state int) bool, set row) {
	for state, ends := range rows {
		if holds(state) {
			ends.join(set)
		}
	}
}

// table has the weak steps of a system: by label and state, where they lead.
type table [][]row

// tableOf makes the table of a system.
func tableOf(s api.System) (table, error) {
	silent, err := silentOf(s)
	if err != nil {
		return nil, err
	}
	t := make(table, s.Labels)
	for label := range t {
		t[label] = emptyRows(s.States)
	}
	t[api.Tau] = silent
	for _, edge := range s.Edges {
		if edge.Label != api.Tau {
			joinWhere(t[edge.Label], func(state int) bool { return silent[state].has(edge.From) }, silent[edge.To])
		}
	}
	return t, nil
}

// size tells how many weak steps there are.
func (t table) size() int {
	size := 0
	for _, rows := range t {
		for _, ends := range rows {
			size += ends.size()
		}
	}
	return size
}

// saturated tells the system of the table, which was made of s; ErrEdges, if it has too many edges.
func (t table) saturated(s api.System) (api.System, error) {
	size := t.size()
	if size > api.MaxEdges {
		return api.System{}, fault(api.ErrEdges)
	}
	edges := make([]api.Edge, 0, size)
	for from := range s.States {
		for label, rows := range t {
			for to := range rows[from].all() {
				edges = append(edges, api.Edge{From: from, Label: label, To: to})
			}
		}
	}
	s.Edges = edges
	return s, nil
}
