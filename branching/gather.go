package branching

import (
	"slices"

	"semblance/api"
	"semblance/bitrow"
	"semblance/system"
	"semblance/tauscc"
)

// gatherer gathers the signatures of a system's states: of each state the ends, pairs of a label and a class, of the steps that are not inert, its own and those behind its inert ones.
type gatherer struct {
	edges  [][]api.Edge // of each state those from it
	cycles []int        // of each state the cycle of silent steps that it stands in
	order  []int        // the states, cycle by cycle: what silent steps lead to stands ahead
}

// gathererOf makes the gatherer of a system, in the order of the silent steps of another one: all that are inert by the classes that will be asked for must be among these, and no cycle of these may be parted by them.
func gathererOf(s, silent api.System) (*gatherer, error) {
	s, err := system.Normal(s)
	if err != nil {
		return nil, err
	}
	cycles, err := tauscc.Cycles(silent)
	if err != nil {
		return nil, err
	}
	order, err := tauscc.Order(silent)
	if err != nil {
		return nil, err
	}
	g := &gatherer{edges: make([][]api.Edge, s.States), cycles: cycles, order: order}
	for _, edge := range s.Edges {
		g.edges[edge.From] = append(g.edges[edge.From], edge)
	}
	return g, nil
}

// endOf tells the label of an edge and the class that it leads to as one number, which rises with the label first.
func endOf(edge api.Edge, classes []int) int {
	return edge.Label*len(classes) + classes[edge.To]
}

// stepOf tells the label and the class of an end.
func stepOf(end int, classes []int) api.Step {
	return api.Step{Label: end / len(classes), To: end % len(classes)}
}

// ends tells the ends of all edges that are not inert, rising.
func (g *gatherer) ends(classes []int) []int {
	var ends []int
	for _, edges := range g.edges {
		for _, edge := range edges {
			if !isInert(edge, classes) {
				ends = append(ends, endOf(edge, classes))
			}
		}
	}
	slices.Sort(ends)
	return slices.Compact(ends)
}

// rows tells the signature of each cycle, as the places that its ends have among all: signatures of a great system have many ends in common, and are joined once for each inert edge.
func (g *gatherer) rows(ends, classes []int) []bitrow.Row {
	rows := bitrow.Several(system.Together(g.cycles), len(ends))
	for _, state := range g.order {
		own := rows[g.cycles[state]]
		for _, edge := range g.edges[state] {
			if isInert(edge, classes) {
				// What it leads to is whole already, or of the same cycle.
				own.Join(rows[g.cycles[edge.To]])
				continue
			}
			place, _ := slices.BinarySearch(ends, endOf(edge, classes))
			own.Add(place)
		}
	}
	return rows
}

// parted tells the classes of those states that are together already and have the same signature, in the one form.
func (g *gatherer) parted(classes []int) []int {
	rows := g.rows(g.ends(classes), classes)
	numbers := map[string]int{}
	next := make([]int, len(classes))
	var text []byte
	for state, class := range classes {
		text = appendWord(text[:0], uint64(class))
		text = appendRow(text, rows[g.cycles[state]])
		number, there := numbers[string(text)]
		if !there {
			// States come in their order, so that a class is numbered by its least one.
			number = len(numbers)
			numbers[string(text)] = number
		}
		next[state] = number
	}
	return next
}

// told tells the signature of each state as a list of its own.
func (g *gatherer) told(classes []int) [][]api.Step {
	ends := g.ends(classes)
	rows := g.rows(ends, classes)
	all := make([][]api.Step, len(classes))
	for state, cycle := range g.cycles {
		all[state] = make([]api.Step, 0, rows[cycle].Size())
		for place, end := range ends {
			if rows[cycle].Has(place) {
				all[state] = append(all[state], stepOf(end, classes))
			}
		}
	}
	return all
}
