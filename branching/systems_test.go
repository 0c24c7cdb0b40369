package branching_test

import (
	"slices"

	"semblance/api"
)

const (
	least    = -1 << 63
	greatest = 1<<63 - 1
)

// numbers tells one number after the other, the same ones each time.
type numbers struct{ at uint64 }

// below tells the next number of 0 to n - 1.
func (x *numbers) below(n int) int {
	x.at = x.at*6364136223846793005 + 1442695040888963407
	return int(x.at >> 33 % uint64(n))
}

// order tells the numbers 0 to n - 1 in some order.
func (x *numbers) order(n int) []int {
	all := upTo(n)
	for i := range all {
		j := i + x.below(n-i)
		all[i], all[j] = all[j], all[i]
	}
	return all
}

// upTo tells the states 0 to n - 1.
func upTo(n int) []int {
	states := make([]int, n)
	for i := range states {
		states[i] = i
	}
	return states
}

// system tells the next system of so many states: at most so many labels and edges, some of which stand twice; each second edge or so is silent.
func (x *numbers) system(states, labels, many int) api.System {
	s := api.System{States: states, Labels: 1 + x.below(labels), Start: x.below(states)}
	for range x.below(many + 1) {
		label := x.below(2) * x.below(s.Labels)
		s.Edges = append(s.Edges, api.Edge{From: x.below(states), Label: label, To: x.below(states)})
	}
	return s
}

// classes tells some classes of so many states, in the one form.
func (x *numbers) classes(states, many int) []int {
	classes := make([]int, states)
	for state := range classes {
		classes[state] = x.below(many)
	}
	return oneForm(classes)
}

// mixed tells a system with its states numbered anew and its edges in another order, and the new numbers.
func (x *numbers) mixed(s api.System) (api.System, []int) {
	to := x.order(s.States)
	mixed := s
	mixed.Start = to[s.Start]
	mixed.Edges = nil
	for _, i := range x.order(len(s.Edges)) {
		e := s.Edges[i]
		mixed.Edges = append(mixed.Edges, api.Edge{From: to[e.From], Label: e.Label, To: to[e.To]})
	}
	return mixed, to
}

// blown tells a system with several states for each of s, all of them branching bisimilar to it, and of each new state the old one: the first one has all steps, each other one has some of them, and silent steps to others, one of which is that to an earlier one.
func (x *numbers) blown(s api.System, states int) (api.System, []int) {
	old := upTo(s.States)
	for len(old) < states {
		old = append(old, x.below(s.States))
	}
	copies := make([][]int, s.States)
	for state, o := range old {
		copies[o] = append(copies[o], state)
	}
	big := api.System{States: states, Labels: s.Labels, Start: copies[s.Start][0]}
	for _, same := range copies {
		for i := range same {
			if i > 0 {
				big.Edges = append(big.Edges, api.Edge{From: same[i], To: same[x.below(i)]})
			}
			if x.below(3) == 0 {
				big.Edges = append(big.Edges, api.Edge{From: same[i], To: same[x.below(len(same))]})
			}
		}
	}
	for _, e := range s.Edges {
		for i, from := range copies[e.From] {
			if i == 0 || x.below(3) == 0 {
				to := copies[e.To]
				big.Edges = append(big.Edges, api.Edge{From: from, Label: e.Label, To: to[x.below(len(to))]})
			}
		}
	}
	return big, old
}

// small tells all systems of so many states and labels, each set of edges once.
func small(states, labels int) []api.System {
	var all []api.System
	for set := range 1 << (states * states * labels) {
		s := api.System{States: states, Labels: labels, Start: set % states}
		for bit := range states * states * labels {
			if set>>bit&1 == 1 {
				s.Edges = append(s.Edges, api.Edge{From: bit / (states * labels), Label: bit / states % labels, To: bit % states})
			}
		}
		all = append(all, s)
	}
	return all
}

// several tells systems of many shapes: without a state, all small ones, and some greater.
func several() []api.System {
	all := []api.System{{Labels: 1}, {Labels: api.MaxLabels}, {States: 1, Labels: 1}, {States: 7, Labels: 3, Start: 6}, given()}
	all = append(all, small(1, 3)...)
	all = append(all, small(2, 3)...)
	all = append(all, small(3, 1)...)
	x := &numbers{}
	for n := range 2000 {
		states := 1 + x.below(12)
		all = append(all, x.system(states, 2+n%3, 1+x.below(3*states)))
	}
	for range 60 {
		s, _ := x.blown(x.system(2+x.below(6), 3, 14), 24)
		all = append(all, s)
	}
	for _, s := range []api.System{chain(17, 1), chain(12, 0), pairs(16), ring(12), fan(5, 20, 12)} {
		m, _ := x.mixed(s)
		all = append(all, s, m)
	}
	return all
}

// edges makes a list of edges of numbers, three an edge.
func edges(numbers ...int) []api.Edge {
	var list []api.Edge
	for three := range slices.Chunk(numbers, 3) {
		list = append(list, api.Edge{From: three[0], Label: three[1], To: three[2]})
	}
	return list
}

// given is the system of the document's examples.
func given() api.System {
	return api.System{States: 5, Labels: 2, Edges: edges(0, 1, 4, 1, 0, 0, 2, 0, 3, 2, 1, 4)}
}

// chain has one state behind the other, by steps with one label.
func chain(n, label int) api.System {
	s := api.System{States: n, Labels: 2}
	for i := range n - 1 {
		s.Edges = append(s.Edges, api.Edge{From: i, Label: label, To: i + 1})
	}
	return s
}

// pairs is a chain of steps that are silent and not, in turn.
func pairs(n int) api.System {
	s := chain(n, 0)
	for i := 1; i < n-1; i += 2 {
		s.Edges[i].Label = 1
	}
	return s
}

// ring goes round by silent steps; from its last state a step leads out of it.
func ring(n int) api.System {
	s := chain(n, 0)
	s.Edges[n-2].Label = 1
	s.Edges = append(s.Edges, api.Edge{From: n - 2, To: 0})
	return s
}

// fan has a part in which silent steps lead from each state to each one behind it; from the last of these so many other steps lead to a chain, the states of which are parted one by one.
func fan(silent, steps, length int) api.System {
	s := api.System{States: silent + length, Labels: api.MaxLabels}
	for i := range length - 1 {
		s.Edges = append(s.Edges, api.Edge{From: silent + i, Label: 1, To: silent + i + 1})
	}
	for to := range silent {
		for from := range to {
			s.Edges = append(s.Edges, api.Edge{From: from, To: to})
		}
	}
	for i := range steps {
		s.Edges = append(s.Edges, api.Edge{From: silent - 1, Label: 1 + i/length%200, To: silent + i%length})
	}
	return s
}

// byChance tells systems at the limits of states, labels and edges.
func byChance() []api.System {
	x := &numbers{at: 9}
	var list []api.System
	for _, labels := range []int{2, 3, api.MaxLabels} {
		for _, many := range []int{1500, 4000, api.MaxEdges} {
			s := api.System{States: api.MaxStates, Labels: labels, Start: api.MaxStates - 1}
			for range many {
				label := x.below(2) * x.below(s.Labels)
				s.Edges = append(s.Edges, api.Edge{From: x.below(s.States), Label: label, To: x.below(s.States)})
			}
			list = append(list, s)
		}
	}
	// Silent steps that lead down alone are no cycles, and stay inert for long.
	down := api.System{States: api.MaxStates, Labels: 3}
	for range api.MaxEdges {
		from := 1 + x.below(down.States-1)
		down.Edges = append(down.Edges, api.Edge{From: from, Label: max(0, x.below(40)-37), To: x.below(from)})
	}
	return append(list, down)
}

// byShape tells systems at the limits, and their classes of branching bisimilarity.
func byShape() ([]api.System, [][]int) {
	halves, behind, sixty := upTo(1000), make([]int, 1000), make([]int, 1000)
	for state := range 1000 {
		halves[state] /= 2
		sixty[state] = max(0, state-59)
	}
	behind[999] = 1
	systems := []api.System{{States: 1000, Labels: 1, Start: 999}, chain(1000, 1), chain(1000, 0), pairs(1000), ring(1000), fan(60, 7000, 940)}
	return systems, [][]int{make([]int, 1000), upTo(1000), make([]int, 1000), halves, behind, sixty}
}

// great tells systems at the limits.
func great() []api.System {
	systems, _ := byShape()
	return append(systems, byChance()...)
}

// noSystems are systems that are none, one for each thing that may offend.
func noSystems() map[string]api.System {
	many := make([]api.Edge, api.MaxEdges+1)
	return map[string]api.System{
		"zero":             {},
		"states below 0":   {States: -1, Labels: 1},
		"states, far off":  {States: least, Labels: 1},
		"states above all": {States: api.MaxStates + 1, Labels: 1},
		"states, far":      {States: greatest, Labels: 1},
		"no label":         {States: 1},
		"labels above all": {States: 1, Labels: api.MaxLabels + 1},
		"the start":        {States: 2, Labels: 1, Start: 2},
		"the start, below": {States: 2, Labels: 1, Start: -1},
		"the start of 0":   {Labels: 1, Start: 1},
		"edges":            {States: 1, Labels: 1, Edges: many},
		"an edge of none":  {Labels: 1, Edges: many[:1]},
		"from":             {States: 2, Labels: 1, Edges: edges(2, 0, 0)},
		"to":               {States: 2, Labels: 1, Edges: edges(0, 0, least)},
		"a label":          {States: 2, Labels: 1, Edges: edges(0, 0, 0, 0, 1, 0)},
		"a label below":    {States: 2, Labels: 1, Edges: edges(0, -1, 0)},
	}
}
