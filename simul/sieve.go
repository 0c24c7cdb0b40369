package simul

import (
	"semblance/bitrow"
	"semblance/system"
)

// sieve has the pairs of states that are not taken away yet. For each step of a state, each one above it has a step with that label to where it is met: to what is above the step's end, or to what that end has lost and nobody has followed yet.
type sieve struct {
	graph *system.Graph
	ends  [][]bitrow.Row // by label and state, where steps lead
	above []bitrow.Row   // of each state those that may simulate it
	lost  []bitrow.Row   // of each state those that were taken away since it was followed last
}

// sieveOf makes the sieve in which those are above a state that have all its labels.
func sieveOf(graph *system.Graph) *sieve {
	states := graph.States()
	v := &sieve{
		graph: graph,
		ends:  make([][]bitrow.Row, graph.Labels()),
		above: bitrow.Several(states, states),
		lost:  bitrow.Several(states, states),
	}
	for label := range v.ends {
		v.ends[label] = bitrow.Several(states, states)
	}
	labels := bitrow.Several(states, graph.Labels())
	for _, edge := range graph.Edges() {
		v.ends[edge.Label][edge.From].Add(edge.To)
		labels[edge.From].Add(edge.Label)
	}
	for p := range states {
		for q := range states {
			if labels[p].IsWithin(labels[q]) {
				v.above[p].Add(q)
			} else {
				v.lost[p].Add(q)
			}
		}
	}
	return v
}

// sift takes pairs away till none goes: each round takes those that go with what one state has lost, and the last one finds no such state.
func (v *sieve) sift() {
rounds:
	for {
		for state, lost := range v.lost {
			if !lost.IsEmpty() {
				v.lost[state] = bitrow.New(len(v.lost))
				v.follow(state, lost)
				continue rounds
			}
		}
		break rounds
	}
}

// follow takes away what goes with the states that one has lost: of a pair whose first state has a step to it, the second one may have met that by a step to a lost one alone.
func (v *sieve) follow(to int, lost bitrow.Row) {
	var unable bitrow.Row
	label := -1
	for _, step := range v.graph.In(to) {
		if step.Label != label {
			label = step.Label
			unable = v.unable(label, to, lost)
		}
		v.take(step.To, unable)
	}
}

// unable tells the states that have steps with a label to lost ones, but none to what is above a state.
func (v *sieve) unable(label, to int, lost bitrow.Row) bitrow.Row {
	unable := bitrow.New(len(v.above))
	for state := range lost.All() {
		for _, from := range v.graph.From(state, label) {
			if !v.ends[label][from].Meets(v.above[to]) {
				unable.Add(from)
			}
		}
	}
	return unable
}

// take takes states away from those above one.
func (v *sieve) take(state int, some bitrow.Row) {
	gone, left := v.above[state].Parted(some)
	v.above[state] = left
	v.lost[state].Join(gone)
}
