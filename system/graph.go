package system

import (
	"cmp"
	"slices"

	"semblance/api"
)

// table has a row of steps for each state: all rows are one list, and a row ends where the next one begins.
type table struct {
	steps  []api.Step
	bounds []int // of each state where its row begins, and behind them the end of the last one
}

// tableOf makes the table of a view, of edges in its order.
func tableOf(states int, edges []api.Edge, v view) table {
	t := table{steps: make([]api.Step, len(edges)), bounds: make([]int, states+1)}
	for i, edge := range edges {
		row, step := v(edge)
		t.steps[i] = step
		t.bounds[row+1] = i + 1
	}
	for state := range states {
		// A row without a step was given no end.
		t.bounds[state+1] = max(t.bounds[state+1], t.bounds[state])
	}
	return t
}

// row tells a state's row, which is not to be handed out: of what is no state nothing.
func (t table) row(state int) []api.Step {
	if !below(state, len(t.bounds)-1) {
		return nil
	}
	begin, end := t.bounds[state], t.bounds[state+1]
	return t.steps[begin:end:end]
}

// ends tells where the steps of a state's row with a label lead.
func (t table) ends(state, label int) []int {
	row := t.row(state)
	first, _ := slices.BinarySearchFunc(row, label, func(step api.Step, label int) int {
		return cmp.Compare(step.Label, label)
	})
	var ends []int
	for _, step := range row[first:] {
		if step.Label != label {
			break
		}
		ends = append(ends, step.To)
	}
	return ends
}

// Graph has a system's edges in tables.
type Graph struct {
	states, labels, start int
	out, in               table
}

// New makes the tables of a system.
func New(s api.System) (*Graph, error) {
	s, err := Normal(s)
	if err != nil {
		return nil, err
	}
	return &Graph{
		states: s.States,
		labels: s.Labels,
		start:  s.Start,
		out:    tableOf(s.States, s.Edges, forward),
		in:     tableOf(s.States, ordered(s.Edges, backward), backward),
	}, nil
}

// States tells how many states there are.
func (g *Graph) States() int {
	if g == nil {
		return 0
	}
	return g.states
}

// Labels tells how many labels there are.
func (g *Graph) Labels() int {
	if g == nil {
		return 0
	}
	return g.labels
}

// Start tells the start.
func (g *Graph) Start() int {
	if g == nil {
		return 0
	}
	return g.start
}

// Out tells a state's steps.
func (g *Graph) Out(state int) []api.Step {
	if g == nil {
		return nil
	}
	return slices.Clone(g.out.row(state))
}

// In tells the steps to a state, To being where they come from.
func (g *Graph) In(state int) []api.Step {
	if g == nil {
		return nil
	}
	return slices.Clone(g.in.row(state))
}

// By tells where a state's steps with a label lead.
func (g *Graph) By(state, label int) []int {
	if g == nil {
		return nil
	}
	return g.out.ends(state, label)
}

// From tells where the steps to a state with a label come from.
func (g *Graph) From(state, label int) []int {
	if g == nil {
		return nil
	}
	return g.in.ends(state, label)
}

// Edges tells all edges.
func (g *Graph) Edges() []api.Edge {
	var edges []api.Edge
	for state := range g.States() {
		for _, step := range g.out.row(state) {
			edges = append(edges, api.Edge{From: state, Label: step.Label, To: step.To})
		}
	}
	return edges
}

// Reach tells the reachable states.
func (g *Graph) Reach() []int {
	if g.States() == 0 {
		return nil
	}
	reached := make([]bool, g.states)
	reached[g.start] = true
	states := []int{g.start}
	for i := 0; i < len(states); i++ {
		for _, step := range g.out.row(states[i]) {
			if !reached[step.To] {
				reached[step.To] = true
				states = append(states, step.To)
			}
		}
	}
	slices.Sort(states)
	return states
}

// Degree tells the greatest number of steps of a state.
func (g *Graph) Degree() int {
	degree := 0
	for state := range g.States() {
		degree = max(degree, len(g.out.row(state)))
	}
	return degree
}

// Cut tells the system of the reachable states, and their new numbers.
func (g *Graph) Cut() (api.System, []int) {
	reach := g.Reach()
	numbers := slices.Repeat([]int{-1}, g.States())
	for number, state := range reach {
		numbers[state] = number
	}
	cut := api.System{States: len(reach), Labels: g.Labels()}
	if len(reach) > 0 {
		cut.Start = numbers[g.start]
	}
	// The new numbers rise as the old ones do, so that the edges stay in order.
	for from, state := range reach {
		for _, step := range g.out.row(state) {
			cut.Edges = append(cut.Edges, api.Edge{From: from, Label: step.Label, To: numbers[step.To]})
		}
	}
	return cut, numbers
}
