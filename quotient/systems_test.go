package quotient_test

import (
	"slices"

	"semblance/api"
)

const (
	least    = -1 << 63
	greatest = 1<<63 - 1
)

// numbers tells one number after the other, the same ones each time.
type numbers struct{ at uint64 }

// below tells the next number of 0 to n - 1.
func (x *numbers) below(n int) int {
	x.at = x.at*6364136223846793005 + 1442695040888963407
	return int(x.at >> 33 % uint64(n))
}

// order tells the numbers 0 to n - 1 in some order.
func (x *numbers) order(n int) []int {
	all := upTo(n)
	for i := range all {
		j := i + x.below(n-i)
		all[i], all[j] = all[j], all[i]
	}
	return all
}

// upTo tells the states 0 to n - 1.
func upTo(n int) []int {
	states := make([]int, n)
	for i := range states {
		states[i] = i
	}
	return states
}

// system tells the next system of so many states: at most so many labels and edges, some of which stand twice; each second edge or so is silent.
func (x *numbers) system(states, labels, many int) api.System {
	s := api.System{States: states, Labels: 1 + x.below(labels), Start: x.below(states)}
	for range x.below(many + 1) {
		label := x.below(2) * x.below(s.Labels)
		s.Edges = append(s.Edges, api.Edge{From: x.below(states), Label: label, To: x.below(states)})
	}
	return s
}

// classes tells some classes of so many states, in the one form.
func (x *numbers) classes(states, many int) []int {
	classes := make([]int, states)
	for state := range classes {
		classes[state] = x.below(many)
	}
	return oneForm(classes)
}

// mixed tells a system with its states numbered anew and its edges in another order.
func (x *numbers) mixed(s api.System) api.System {
	to := x.order(s.States)
	mixed := s
	mixed.Start = to[s.Start]
	mixed.Edges = nil
	for _, i := range x.order(len(s.Edges)) {
		e := s.Edges[i]
		mixed.Edges = append(mixed.Edges, api.Edge{From: to[e.From], Label: e.Label, To: to[e.To]})
	}
	return mixed
}

// copied tells a system with several states for each of s, all of them strongly bisimilar to it: each has all steps, to some copy each.
func (x *numbers) copied(s api.System, states int) api.System {
	copies := make([][]int, s.States)
	for state := range states {
		old := state
		if state >= s.States {
			old = x.below(s.States)
		}
		copies[old] = append(copies[old], state)
	}
	big := api.System{States: states, Labels: s.Labels, Start: copies[s.Start][0]}
	for _, e := range s.Edges {
		for _, from := range copies[e.From] {
			to := copies[e.To]
			big.Edges = append(big.Edges, api.Edge{From: from, Label: e.Label, To: to[x.below(len(to))]})
		}
	}
	return big
}

// small tells all systems of so many states and labels, each set of edges once.
func small(states, labels int) []api.System {
	var all []api.System
	for set := range 1 << (states * states * labels) {
		s := api.System{States: states, Labels: labels, Start: set % states}
		for bit := range states * states * labels {
			if set>>bit&1 == 1 {
				s.Edges = append(s.Edges, api.Edge{From: bit / (states * labels), Label: bit / states % labels, To: bit % states})
			}
		}
		all = append(all, s)
	}
	return all
}

// several tells systems of many shapes: without a state, all small ones, and some greater.
func several() []api.System {
	all := []api.System{{Labels: 1}, {Labels: api.MaxLabels}, {States: 1, Labels: 1}, {States: 7, Labels: 3, Start: 6}, given(2), given(1)}
	all = append(all, small(1, 3)...)
	all = append(all, small(2, 2)...)
	all = append(all, small(3, 1)...)
	x := &numbers{}
	for n := range 500 {
		states := 1 + x.below(9)
		all = append(all, x.system(states, 2+n%3, 1+x.below(3*states)))
	}
	for range 60 {
		s := x.copied(x.system(2+x.below(5), 3, 12), 14)
		all = append(all, s, x.mixed(s))
	}
	for _, s := range []api.System{chain(12, 1), chain(9, 0), ring(8, 0), ring(8, 1)} {
		all = append(all, s, x.mixed(s))
	}
	return all
}

// edges makes a list of edges of numbers, three an edge.
func edges(numbers ...int) []api.Edge {
	var list []api.Edge
	for three := range slices.Chunk(numbers, 3) {
		list = append(list, api.Edge{From: three[0], Label: three[1], To: three[2]})
	}
	return list
}

// given is the system of the document's examples, with a start.
func given(start int) api.System {
	return api.System{States: 5, Labels: 2, Start: start, Edges: edges(0, 1, 4, 1, 0, 0, 2, 0, 3, 2, 1, 4)}
}

// chain has one state behind the other, by steps with one label.
func chain(n, label int) api.System {
	s := api.System{States: n, Labels: 2}
	for i := range n - 1 {
		s.Edges = append(s.Edges, api.Edge{From: i, Label: label, To: i + 1})
	}
	return s
}

// ring goes round by steps with one label.
func ring(n, label int) api.System {
	s := chain(n, label)
	s.Edges = append(s.Edges, api.Edge{From: n - 1, Label: label, To: 0})
	return s
}

// great tells systems of so many states, with as many edges as may be for them if the limits are shared.
func great(states int) []api.System {
	many := api.MaxEdges * states / api.MaxStates
	x := &numbers{at: 9}
	list := []api.System{chain(states, 1), chain(states, 0), ring(states, 1), ring(states, 0), {States: states, Labels: 1, Start: states - 1}}
	for _, labels := range []int{1, 2, 3, api.MaxLabels} {
		for _, part := range []int{20, 8, 1} {
			s := api.System{States: states, Labels: labels, Start: states - 1}
			for range many / part {
				label := x.below(2) * x.below(s.Labels)
				s.Edges = append(s.Edges, api.Edge{From: x.below(states), Label: label, To: x.below(states)})
			}
			list = append(list, s)
		}
	}
	for _, own := range []int{10, states / 5} {
		s := x.copied(x.system(own, 4, 2*own), states)
		list = append(list, x.mixed(s))
	}
	return list
}

// noSystems are systems that are none, one for each thing that may offend.
func noSystems() map[string]api.System {
	many := make([]api.Edge, api.MaxEdges+1)
	return map[string]api.System{
		"zero":             {},
		"states below 0":   {States: -1, Labels: 1},
		"states, far off":  {States: least, Labels: 1},
		"states above all": {States: api.MaxStates + 1, Labels: 1},
		"states, far":      {States: greatest, Labels: 1},
		"no label":         {States: 1},
		"labels above all": {States: 1, Labels: api.MaxLabels + 1},
		"the start":        {States: 2, Labels: 1, Start: 2},
		"the start, below": {States: 2, Labels: 1, Start: -1},
		"the start of 0":   {Labels: 1, Start: 1},
		"edges":            {States: 1, Labels: 1, Edges: many},
		"an edge of none":  {Labels: 1, Edges: many[:1]},
		"from":             {States: 2, Labels: 1, Edges: edges(2, 0, 0)},
		"to":               {States: 2, Labels: 1, Edges: edges(0, 0, least)},
		"a label":          {States: 2, Labels: 1, Edges: edges(0, 0, 0, 0, 1, 0)},
		"a label below":    {States: 2, Labels: 1, Edges: edges(0, -1, 0)},
	}
}
