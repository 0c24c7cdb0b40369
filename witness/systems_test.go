package witness_test

import (
	"slices"

	"semblance/api"
)

const (
	least    = -1 << 63
	greatest = 1<<63 - 1
)

// numbers tells one number after the other, the same ones each time.
type numbers struct{ at uint64 }

// below tells the next number of 0 to n - 1.
func (x *numbers) below(n int) int {
	x.at = x.at*6364136223846793005 + 1442695040888963407
	return int(x.at >> 33 % uint64(n))
}

// order tells the numbers 0 to n - 1 in some order.
func (x *numbers) order(n int) []int {
	all := upTo(n)
	for i := range all {
		j := i + x.below(n-i)
		all[i], all[j] = all[j], all[i]
	}
	return all
}

// upTo tells the states 0 to n - 1.
func upTo(n int) []int {
	states := make([]int, n)
	for i := range states {
		states[i] = i
	}
	return states
}

// edge tells the next edge; each second one or so is silent.
func (x *numbers) edge(s api.System) api.Edge {
	return edge(x.below(s.States), x.below(2)*x.below(s.Labels), x.below(s.States))
}

// system tells the next system of so many states: at most so many labels and edges, some of which stand twice.
func (x *numbers) system(states, labels, many int) api.System {
	s := api.System{States: states, Labels: 1 + x.below(labels), Start: x.below(states)}
	for range x.below(many + 1) {
		s.Edges = append(s.Edges, x.edge(s))
	}
	return s
}

// classes tells some classes of so many states, in the one form.
func (x *numbers) classes(states, many int) []int {
	classes := make([]int, states)
	for state := range classes {
		classes[state] = x.below(many)
	}
	return oneForm(classes)
}

// pairs tells so many pairs of states.
func (x *numbers) pairs(states, many int) [][2]int {
	var pairs [][2]int
	for range many {
		pairs = append(pairs, [2]int{x.below(states), x.below(states)})
	}
	return pairs
}

// merged tells classes with two states' classes made one.
func merged(classes []int, p, q int) []int {
	one := slices.Clone(classes)
	for state, class := range classes {
		if class == classes[p] {
			one[state] = classes[q]
		}
	}
	return oneForm(one)
}

// parted tells classes with one state alone.
func parted(classes []int, state int) []int {
	one := slices.Clone(classes)
	one[state] = len(classes)
	return oneForm(one)
}

// disturbed tells a system with an edge taken away, or one more.
func (x *numbers) disturbed(s api.System) api.System {
	other := s
	if len(s.Edges) > 0 && x.below(2) == 0 {
		i := x.below(len(s.Edges))
		other.Edges = slices.DeleteFunc(slices.Clone(s.Edges), func(e api.Edge) bool { return e == s.Edges[i] })
		return other
	}
	other.Edges = append(slices.Clone(s.Edges), x.edge(s))
	return other
}

// blown tells a system with several states for each of s, all of them branching bisimilar to it: the first one has all steps, each other one has some of them, and silent steps to others, one of which is that to an earlier one.
func (x *numbers) blown(s api.System, states int) api.System {
	copies := make([][]int, s.States)
	for state := range states {
		old := state
		if state >= s.States {
			old = x.below(s.States)
		}
		copies[old] = append(copies[old], state)
	}
	big := api.System{States: states, Labels: s.Labels, Start: copies[s.Start][0]}
	for _, same := range copies {
		for i := range same {
			if i > 0 {
				big.Edges = append(big.Edges, edge(same[i], 0, same[x.below(i)]))
			}
			if x.below(3) == 0 {
				big.Edges = append(big.Edges, edge(same[i], 0, same[x.below(len(same))]))
			}
		}
	}
	for _, e := range s.Edges {
		for i, from := range copies[e.From] {
			if i == 0 || x.below(3) == 0 {
				to := copies[e.To]
				big.Edges = append(big.Edges, edge(from, e.Label, to[x.below(len(to))]))
			}
		}
	}
	return big
}

// small tells the systems of so many states and labels, each set of edges once, but all of them only where each is 1.
func small(states, labels, each int) []api.System {
	var all []api.System
	for set := 0; set < 1<<(states*states*labels); set += each {
		s := api.System{States: states, Labels: labels, Start: set % states}
		for bit := range states * states * labels {
			if set>>bit&1 == 1 {
				s.Edges = append(s.Edges, edge(bit/(states*labels), bit/states%labels, bit%states))
			}
		}
		all = append(all, s)
	}
	return all
}

// tiny tells systems of which all partings can be tried.
func tiny() []api.System {
	all := []api.System{{Labels: 1}, {Labels: api.MaxLabels}, {States: 5, Labels: 3, Start: 4}, given()}
	all = append(all, small(1, 3, 1)...)
	all = append(all, small(2, 3, 1)...)
	all = append(all, small(3, 1, 1)...)
	all = append(all, small(3, 2, 61)...)
	x := &numbers{}
	for n := range 700 {
		states := 3 + x.below(3)
		all = append(all, x.system(states, 1+n%4, 1+x.below(3*states)))
	}
	return all
}

// several tells systems of many shapes.
func several() []api.System {
	x := &numbers{at: 3}
	var all []api.System
	for n := range 500 {
		states := 1 + x.below(12)
		all = append(all, x.system(states, 1+n%4, 1+x.below(3*states)))
	}
	for range 200 {
		all = append(all, x.blown(x.system(2+x.below(6), 3, 14), 12+x.below(12)))
	}
	// Rows of more than one word.
	for _, states := range []int{63, 64, 65, 127, 128, 129} {
		all = append(all, x.system(states, 3, 2*states), x.blown(x.system(9, 4, 30), states))
	}
	return append(all, chain(17, 1), chain(12, 0), inTurn(16), ring(12), fan(5, 20, 12))
}

func edge(from, label, to int) api.Edge { return api.Edge{From: from, Label: label, To: to} }

// edges makes a list of edges of numbers, three an edge.
func edges(numbers ...int) []api.Edge {
	var list []api.Edge
	for three := range slices.Chunk(numbers, 3) {
		list = append(list, edge(three[0], three[1], three[2]))
	}
	return list
}

// given is the system of the document's examples.
func given() api.System {
	return api.System{States: 5, Labels: 2, Edges: edges(0, 1, 4, 1, 0, 0, 2, 0, 3, 2, 1, 4)}
}

// chain has one state behind the other, by steps with one label.
func chain(n, label int) api.System {
	s := api.System{States: n, Labels: 2}
	for i := range n - 1 {
		s.Edges = append(s.Edges, edge(i, label, i+1))
	}
	return s
}

// inTurn is a chain of steps that are silent and not, in turn.
func inTurn(n int) api.System {
	s := chain(n, 0)
	for i := 1; i < n-1; i += 2 {
		s.Edges[i].Label = 1
	}
	return s
}

// ring goes round by silent steps; from its last state a step leads out of it.
func ring(n int) api.System {
	s := chain(n, 0)
	s.Edges[n-2].Label = 1
	s.Edges = append(s.Edges, edge(n-2, 0, 0))
	return s
}

// fan has a part in which silent steps lead from each state to each one behind it; from the last of these so many other steps lead to a chain.
func fan(silent, steps, length int) api.System {
	s := api.System{States: silent + length, Labels: api.MaxLabels}
	for i := range length - 1 {
		s.Edges = append(s.Edges, edge(silent+i, 1, silent+i+1))
	}
	for to := range silent {
		for from := range to {
			s.Edges = append(s.Edges, edge(from, 0, to))
		}
	}
	for i := range steps {
		s.Edges = append(s.Edges, edge(silent-1, 1+i/length%200, silent+i%length))
	}
	return s
}

// great tells systems of so many states, some of them at the limits of labels and edges.
func great(states int) []api.System {
	x := &numbers{at: 9}
	list := []api.System{{States: states, Labels: 1, Start: states - 1}, {States: states, Labels: api.MaxLabels}, chain(states, 1), chain(states, 0), inTurn(states), ring(states), fan(40, 5000, states-40)}
	for _, labels := range []int{2, 3, api.MaxLabels} {
		for _, many := range []int{states / 2, 3 * states, api.MaxEdges} {
			s := api.System{States: states, Labels: labels, Start: states - 1}
			for range many {
				s.Edges = append(s.Edges, x.edge(s))
			}
			list = append(list, s)
		}
	}
	return append(list, x.blown(x.system(20, 4, 100), states), x.blown(x.system(60, 3, 100), states))
}

// noSystems are systems that are none, one for each thing that may offend.
func noSystems() map[string]api.System {
	many := make([]api.Edge, api.MaxEdges+1)
	return map[string]api.System{
		"zero":             {},
		"states below 0":   {States: -1, Labels: 1},
		"states, far off":  {States: least, Labels: 1},
		"states above all": {States: api.MaxStates + 1, Labels: 1},
		"states, far":      {States: greatest, Labels: 1},
		"no label":         {States: 1},
		"labels above all": {States: 1, Labels: api.MaxLabels + 1},
		"many, no label":   {States: api.MaxStates},
		"the start":        {States: 2, Labels: 1, Start: 2},
		"the start, below": {States: 2, Labels: 1, Start: -1},
		"the start of 0":   {Labels: 1, Start: 1},
		"edges":            {States: 1, Labels: 1, Edges: many},
		"an edge of none":  {Labels: 1, Edges: many[:1]},
		"from":             {States: 2, Labels: 1, Edges: edges(2, 0, 0)},
		"to":               {States: 2, Labels: 1, Edges: edges(0, 0, least)},
		"to, of many":      {States: api.MaxPairs + 1, Labels: 1, Edges: edges(0, 0, greatest)},
		"a label":          {States: 2, Labels: 1, Edges: edges(0, 0, 0, 0, 1, 0)},
		"a label below":    {States: 2, Labels: 1, Edges: edges(0, -1, 0)},
	}
}

// partings tells all classes of so many states in the one form.
func partings(states int) [][]int {
	all := [][]int{nil}
	for range states {
		var longer [][]int
		for _, classes := range all {
			for class := range slices.Max(append([]int{-1}, classes...)) + 2 {
				longer = append(longer, append(slices.Clone(classes), class))
			}
		}
		all = longer
	}
	return all
}
