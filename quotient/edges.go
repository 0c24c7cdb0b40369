package quotient

import (
	"cmp"
	"maps"
	"slices"

	"semblance/api"
	"semblance/system"
)

// numbered numbers the classes of the reachable states, which rise, in the order in which they come first; it tells how many there are, and of each state the number of its class, -1 if that has no reachable state.
func numbered(reach, classes []int) (int, []int) {
	ofClass := slices.Repeat([]int{-1}, system.Together(classes))
	states := 0
	for _, state := range reach {
		if class := classes[state]; ofClass[class] < 0 {
			ofClass[class] = states
			states++
		}
	}
	numbers := make([]int, len(classes))
	for state, class := range classes {
		numbers[state] = ofClass[class]
	}
	return states, numbers
}

// edgesOf tells the edges between numbered states that those of the reachable ones make, in order, each once; if inert, without those that are silent within one.
func edgesOf(graph *system.Graph, reach, numbers []int, inert bool) []api.Edge {
	once := map[api.Edge]struct{}{}
	// What an unreachable state does is left out, whatever its class is: it may lead to a class that has no number.
	for _, state := range reach {
		from := numbers[state]
		loop := api.Edge{From: from, Label: api.Tau, To: from}
		for _, step := range graph.Out(state) {
			edge := api.Edge{From: from, Label: step.Label, To: numbers[step.To]}
			if inert && edge == loop {
				continue
			}
			once[edge] = struct{}{}
		}
	}
	return slices.SortedFunc(maps.Keys(once), rising)
}

// rising orders edges by From, then Label, then To.
func rising(a, b api.Edge) int {
	return cmp.Or(cmp.Compare(a.From, b.From), cmp.Compare(a.Label, b.Label), cmp.Compare(a.To, b.To))
}
