package weak

import (
	"semblance/api"
	"semblance/bitrow"
	"semblance/system"
)

// silentOf tells of each state those that come from it by silent steps, none or more.
func silentOf(s api.System) ([]bitrow.Row, error) {
	if err := system.Check(s); err != nil {
		return nil, fault(err)
	}
	if s.States > api.MaxPairs {
		return nil, fault(api.ErrLong)
	}
	silent := bitrow.Several(s.States, s.States)
	for state, ends := range silent {
		ends.Add(state)
	}
	for _, edge := range s.Edges {
		if edge.Label == api.Tau {
			silent[edge.From].Add(edge.To)
		}
	}
	bitrow.Close(silent)
	return silent, nil
}

// joinWhere joins a set to the rows of those states of which something holds.
func joinWhere(rows []bitrow.Row, holds func(state int) bool, set bitrow.Row) {
	for state, ends := range rows {
		if holds(state) {
			ends.Join(set)
		}
	}
}

// table has the weak steps of a system: by label and state, where they lead.
type table [][]bitrow.Row

// tableOf makes the table of a system.
func tableOf(s api.System) (table, error) {
	silent, err := silentOf(s)
	if err != nil {
		return nil, err
	}
	t := make(table, s.Labels)
	for label := range t {
		t[label] = bitrow.Several(s.States, s.States)
	}
	t[api.Tau] = silent
	for _, edge := range s.Edges {
		if edge.Label != api.Tau {
			joinWhere(t[edge.Label], func(state int) bool { return silent[state].Has(edge.From) }, silent[edge.To])
		}
	}
	return t, nil
}

// size tells how many weak steps there are.
func (t table) size() int {
	size := 0
	for _, rows := range t {
		for _, ends := range rows {
			size += ends.Size()
		}
	}
	return size
}

// saturated tells the system of the table, which was made of s; ErrEdges, if it has too many edges.
func (t table) saturated(s api.System) (api.System, error) {
	size := t.size()
	if size > api.MaxEdges {
		return api.System{}, fault(api.ErrEdges)
	}
	edges := make([]api.Edge, 0, size)
	for from := range s.States {
		for label, rows := range t {
			for to := range rows[from].All() {
				edges = append(edges, api.Edge{From: from, Label: label, To: to})
			}
		}
	}
	s.Edges = edges
	return s, nil
}
