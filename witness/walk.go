package witness

import (
	"iter"

	"semblance/api"
	"semblance/system"
)

// manner is how the steps of related states are met.
type manner interface {
	// meets tells whether a state meets a step of one that is related to it.
	meets(state int, step api.Step) bool
}

// walk goes through pairs of related states, and tells the first step of the first one of a pair that the second one does not meet; else a zero Fail.
func walk(graph *system.Graph, pairs iter.Seq[[2]int], how manner) Fail {
	steps := make([][]api.Step, graph.States())
	for state := range steps {
		steps[state] = graph.Out(state)
	}
	for pair := range pairs {
		for _, step := range steps[pair[0]] {
			if !how.meets(pair[1], step) {
				return Fail{P: pair[0], Q: pair[1], Label: step.Label, To: step.To}
			}
		}
	}
	return Fail{}
}

// together goes through the pairs of states of one class, by their first states, then by their second ones.
func together(classes []int) iter.Seq[[2]int] {
	members := make([][]int, system.Together(classes))
	for state, class := range classes {
		members[class] = append(members[class], state)
	}
	return func(yield func([2]int) bool) {
		for p, class := range classes {
			for _, q := range members[class] {
				if !yield([2]int{p, q}) {
					return
				}
			}
		}
	}
}
