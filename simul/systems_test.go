package simul_test

import (
	"slices"

	"semblance/api"
)

const (
	least    = -1 << 63
	greatest = 1<<63 - 1
)

// numbers tells one number after the other, the same ones each time.
type numbers struct{ at uint64 }

// below tells the next number of 0 to n - 1.
func (x *numbers) below(n int) int {
	x.at = x.at*6364136223846793005 + 1442695040888963407
	return int(x.at >> 33 % uint64(n))
}

// order tells the numbers 0 to n - 1 in some order.
func (x *numbers) order(n int) []int {
	all := upTo(n)
	for i := range all {
		j := i + x.below(n-i)
		all[i], all[j] = all[j], all[i]
	}
	return all
}

// upTo tells the states 0 to n - 1.
func upTo(n int) []int {
	states := make([]int, n)
	for i := range states {
		states[i] = i
	}
	return states
}

// system tells the next system of so many states: at most so many labels and edges, some of which stand twice.
func (x *numbers) system(states, labels, many int) api.System {
	s := api.System{States: states, Labels: 1 + x.below(labels), Start: x.below(states)}
	for range x.below(many + 1) {
		s.Edges = append(s.Edges, edge(x.below(states), x.below(s.Labels), x.below(states)))
	}
	return s
}

// mixed tells a system with its states numbered anew and its edges in another order, and the new numbers.
func (x *numbers) mixed(s api.System) (api.System, []int) {
	to := x.order(s.States)
	mixed := s
	mixed.Start = to[s.Start]
	mixed.Edges = nil
	for _, i := range x.order(len(s.Edges)) {
		e := s.Edges[i]
		mixed.Edges = append(mixed.Edges, edge(to[e.From], e.Label, to[e.To]))
	}
	return mixed, to
}

// blown tells a system with several states for each of s, each of which simulates the old one and is simulated by it: a new state may have, beside its own steps, some to states that what its own steps lead to simulates.
func (x *numbers) blown(s api.System, states int) (api.System, []int) {
	old := upTo(s.States)
	for len(old) < states {
		old = append(old, x.below(s.States))
	}
	copies := make([][]int, s.States)
	for state, o := range old {
		copies[o] = append(copies[o], state)
	}
	above := rowsOf(simulated(s))
	big := api.System{States: states, Labels: s.Labels, Start: copies[s.Start][0]}
	for _, e := range s.Edges {
		for _, from := range copies[e.From] {
			to := copies[e.To]
			big.Edges = append(big.Edges, edge(from, e.Label, to[x.below(len(to))]))
			for less := range s.States {
				if x.below(4) == 0 && slices.Contains(above[less], e.To) {
					to := copies[less]
					big.Edges = append(big.Edges, edge(from, e.Label, to[x.below(len(to))]))
				}
			}
		}
	}
	return big, old
}

// small tells all systems of so many states and labels, each set of edges once.
func small(states, labels int) []api.System {
	var all []api.System
	for set := range 1 << (states * states * labels) {
		s := api.System{States: states, Labels: labels, Start: set % states}
		for bit := range states * states * labels {
			if set>>bit&1 == 1 {
				s.Edges = append(s.Edges, edge(bit/(states*labels), bit/states%labels, bit%states))
			}
		}
		all = append(all, s)
	}
	return all
}

// several tells systems of many shapes: without a state, all small ones, and some greater.
func several() []api.System {
	all := []api.System{{Labels: 1}, {Labels: api.MaxLabels}, {States: 1, Labels: 1}, {States: 7, Labels: 3, Start: 6}, given()}
	all = append(all, small(1, 3)...)
	all = append(all, small(2, 3)...)
	all = append(all, small(3, 1)...)
	x := &numbers{}
	for n := range 3000 {
		states := 1 + x.below(12)
		all = append(all, x.system(states, 1+n%4, 1+x.below(4*states)))
	}
	for range 60 {
		s, _ := x.blown(x.system(2+x.below(6), 3, 14), 24)
		all = append(all, s)
	}
	// Rows of more than one word.
	for _, states := range []int{63, 64, 65, 127, 128, 129} {
		all = append(all, x.system(states, 3, 3*states), x.system(states, 1, 2*states))
	}
	for _, s := range []api.System{chain(17), ring(12), rings(5, 7, 9), rings(4, 6, 10), tree(31), endless(40)} {
		m, _ := x.mixed(s)
		all = append(all, s, m)
	}
	return all
}

func edge(from, label, to int) api.Edge { return api.Edge{From: from, Label: label, To: to} }

// edges makes a list of edges of numbers, three an edge.
func edges(numbers ...int) []api.Edge {
	var list []api.Edge
	for three := range slices.Chunk(numbers, 3) {
		list = append(list, edge(three[0], three[1], three[2]))
	}
	return list
}

// given is the system of the document's examples.
func given() api.System {
	return api.System{States: 5, Labels: 3, Edges: edges(0, 1, 1, 2, 1, 3, 2, 1, 4, 4, 2, 3, 1, 2, 3)}
}

// chain has one state behind the other: each is simulated by those ahead.
func chain(n int) api.System {
	s := api.System{States: n, Labels: 1}
	for i := range n - 1 {
		s.Edges = append(s.Edges, edge(i, 0, i+1))
	}
	return s
}

// endless is a chain with a state behind it, which goes on and on: it simulates all.
func endless(n int) api.System {
	s := chain(n)
	s.Edges[n-2] = edge(n-1, 0, n-1)
	return s
}

// ring goes round.
func ring(n int) api.System {
	s := chain(n)
	s.Edges = append(s.Edges, edge(n-1, 0, 0))
	return s
}

// rings has two rings, and a chain beside them. In each state but one the second ring has a loop with another label; the first one has it in one state alone.
func rings(one, two, length int) api.System {
	s := api.System{States: one + two + length, Labels: 2}
	for i := range one {
		s.Edges = append(s.Edges, edge(i, 0, (i+1)%one))
	}
	for i := range two {
		s.Edges = append(s.Edges, edge(one+i, 0, one+(i+1)%two))
		if i > 0 {
			s.Edges = append(s.Edges, edge(one+i, 1, one+i))
		}
	}
	for i := range length - 1 {
		s.Edges = append(s.Edges, edge(one+two+i, 0, one+two+i+1))
	}
	s.Edges = append(s.Edges, edge(0, 1, 0))
	return s
}

// tree has two branches at each state.
func tree(n int) api.System {
	s := api.System{States: n, Labels: 2}
	for i := 1; i < n; i++ {
		s.Edges = append(s.Edges, edge((i-1)/2, i%2, i))
	}
	return s
}

// great tells systems of as many states as may be, some of them at the limits of labels and edges.
func great() []api.System {
	x := &numbers{at: 9}
	many := api.MaxPairs
	list := []api.System{{States: many, Labels: 1, Start: many - 1}, {States: many, Labels: api.MaxLabels}, chain(many), ring(many), endless(many), tree(many), rings(19, 23, many-42)}
	for _, labels := range []int{1, 2, 3, 10, api.MaxLabels} {
		for _, most := range []int{400, 900, api.MaxEdges} {
			s := api.System{States: many, Labels: labels}
			for range most {
				s.Edges = append(s.Edges, edge(x.below(many), x.below(labels), x.below(many)))
			}
			list = append(list, s)
		}
	}
	return list
}

// noSystems are systems that are none, one for each thing that may offend.
func noSystems() map[string]api.System {
	many := make([]api.Edge, api.MaxEdges+1)
	return map[string]api.System{
		"zero":             {},
		"states below 0":   {States: -1, Labels: 1},
		"states, far off":  {States: least, Labels: 1},
		"states above all": {States: api.MaxStates + 1, Labels: 1},
		"states, far":      {States: greatest, Labels: 1},
		"no label":         {States: 1},
		"labels above all": {States: 1, Labels: api.MaxLabels + 1},
		"many, no label":   {States: api.MaxStates},
		"the start":        {States: 2, Labels: 1, Start: 2},
		"the start, below": {States: 2, Labels: 1, Start: -1},
		"the start of 0":   {Labels: 1, Start: 1},
		"edges":            {States: 1, Labels: 1, Edges: many},
		"an edge of none":  {Labels: 1, Edges: many[:1]},
		"from":             {States: 2, Labels: 1, Edges: edges(2, 0, 0)},
		"to":               {States: 2, Labels: 1, Edges: edges(0, 0, least)},
		"to, of many":      {States: api.MaxPairs + 1, Labels: 1, Edges: edges(0, 0, greatest)},
		"a label":          {States: 2, Labels: 1, Edges: edges(0, 0, 0, 0, 1, 0)},
		"a label below":    {States: 2, Labels: 1, Edges: edges(0, -1, 0)},
	}
}
