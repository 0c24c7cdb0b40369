package weak_test

import (
	"slices"

	"semblance/api"
)

const (
	least    = -1 << 63
	greatest = 1<<63 - 1
)

// numbers tells one number after the other, the same ones each time.
type numbers struct{ at uint64 }

// below tells the next number of 0 to n - 1.
func (x *numbers) below(n int) int {
	x.at = x.at*6364136223846793005 + 1442695040888963407
	return int(x.at >> 33 % uint64(n))
}

// order tells the numbers 0 to n - 1 in some order.
func (x *numbers) order(n int) []int {
	all := upTo(n)
	for i := range all {
		j := i + x.below(n-i)
		all[i], all[j] = all[j], all[i]
	}
	return all
}

// upTo tells the states 0 to n - 1.
func upTo(n int) []int {
	states := make([]int, n)
	for i := range states {
		states[i] = i
	}
	return states
}

// edge tells the next edge; each second one or so is silent.
func (x *numbers) edge(s api.System) api.Edge {
	return api.Edge{From: x.below(s.States), Label: x.below(2) * x.below(s.Labels), To: x.below(s.States)}
}

// system tells the next system of so many states: at most so many labels and edges, some of which stand twice.
func (x *numbers) system(states, labels, many int) api.System {
	s := api.System{States: states, Labels: 1 + x.below(labels), Start: x.below(states)}
	for range x.below(many + 1) {
		s.Edges = append(s.Edges, x.edge(s))
	}
	return s
}

// mixed tells a system with its states numbered anew and its edges in another order, and the new numbers.
func (x *numbers) mixed(s api.System) (api.System, []int) {
	to := x.order(s.States)
	mixed := s
	mixed.Start = to[s.Start]
	mixed.Edges = nil
	for _, i := range x.order(len(s.Edges)) {
		e := s.Edges[i]
		mixed.Edges = append(mixed.Edges, api.Edge{From: to[e.From], Label: e.Label, To: to[e.To]})
	}
	return mixed, to
}

// blown tells a system with several states for each of s, all of them weakly bisimilar to it, and of each new state the old one: the first one has all steps, each other one has some of them, and silent steps to others, one of which is that to an earlier one. Besides, some have steps that are weak ones of the old state, and need not be branching ones.
func (x *numbers) blown(s api.System, states int) (api.System, []int) {
	old := upTo(s.States)
	for len(old) < states {
		old = append(old, x.below(s.States))
	}
	copies := make([][]int, s.States)
	for state, o := range old {
		copies[o] = append(copies[o], state)
	}
	big := api.System{States: states, Labels: s.Labels, Start: copies[s.Start][0]}
	for _, same := range copies {
		for i := 1; i < len(same); i++ {
			big.Edges = append(big.Edges, api.Edge{From: same[i], To: same[x.below(i)]})
		}
		for range len(same) / 4 {
			big.Edges = append(big.Edges, api.Edge{From: same[x.below(len(same))], To: same[x.below(len(same))]})
		}
	}
	step := func(from int, e api.Edge) {
		to := copies[e.To]
		big.Edges = append(big.Edges, api.Edge{From: from, Label: e.Label, To: to[x.below(len(to))]})
	}
	for _, e := range s.Edges {
		for i, from := range copies[e.From] {
			if i == 0 || x.below(4) == 0 {
				step(from, e)
			}
		}
	}
	for _, e := range weaklyOf(s).edges() {
		for _, from := range copies[e.From] {
			if x.below(8) == 0 {
				step(from, e)
			}
		}
	}
	return big, old
}

// small tells the systems of so many states and labels, each set of edges once, but all of them only where each is 1.
func small(states, labels, each int) []api.System {
	var all []api.System
	for set := 0; set < 1<<(states*states*labels); set += each {
		s := api.System{States: states, Labels: labels, Start: set % states}
		for bit := range states * states * labels {
			if set>>bit&1 == 1 {
				s.Edges = append(s.Edges, api.Edge{From: bit / (states * labels), Label: bit / states % labels, To: bit % states})
			}
		}
		all = append(all, s)
	}
	return all
}

// several tells systems of many shapes: without a state, all small ones, and some greater.
func several() []api.System {
	all := []api.System{{Labels: 1}, {Labels: api.MaxLabels}, {States: 1, Labels: 1}, {States: 7, Labels: 3, Start: 6}, given()}
	all = append(all, small(1, 3, 1)...)
	all = append(all, small(2, 3, 1)...)
	all = append(all, small(3, 1, 1)...)
	all = append(all, small(3, 2, 23)...)
	x := &numbers{}
	for n := range 2000 {
		states := 1 + x.below(12)
		all = append(all, x.system(states, 2+n%3, 1+x.below(3*states)))
	}
	for range 60 {
		s, _ := x.blown(x.system(2+x.below(6), 3, 14), 24)
		all = append(all, s)
	}
	// Rows of more than one word.
	for _, states := range []int{63, 64, 65, 127, 128, 129, 192, 193} {
		s := x.system(states, 3, 2*states)
		s.Edges = append(s.Edges, api.Edge{From: 0, To: states - 1}, api.Edge{From: states - 1, To: states / 2})
		all = append(all, s)
	}
	for _, s := range []api.System{chain(17, 1), chain(12, 0), pairs(16), ring(12), fan(5, 20, 12)} {
		m, _ := x.mixed(s)
		all = append(all, s, m)
	}
	return all
}

// edges makes a list of edges of numbers, three an edge.
func edges(numbers ...int) []api.Edge {
	var list []api.Edge
	for three := range slices.Chunk(numbers, 3) {
		list = append(list, api.Edge{From: three[0], Label: three[1], To: three[2]})
	}
	return list
}

// given is the system of the document's examples.
func given() api.System {
	return api.System{States: 4, Labels: 2, Edges: edges(0, 0, 1, 1, 1, 2, 3, 1, 2)}
}

// chain has one state behind the other, by steps with one label.
func chain(n, label int) api.System {
	s := api.System{States: n, Labels: 2}
	for i := range n - 1 {
		s.Edges = append(s.Edges, api.Edge{From: i, Label: label, To: i + 1})
	}
	return s
}

// pairs is a chain of steps that are silent and not, in turn.
func pairs(n int) api.System {
	s := chain(n, 0)
	for i := 1; i < n-1; i += 2 {
		s.Edges[i].Label = 1
	}
	return s
}

// ring goes round by silent steps; from its last state a step leads out of it.
func ring(n int) api.System {
	s := chain(n, 0)
	s.Edges[n-2].Label = 1
	s.Edges = append(s.Edges, api.Edge{From: n - 2, To: 0})
	return s
}

// fan has a part in which silent steps lead from each state to each one behind it; from the last of these so many other steps lead to a chain, the states of which are parted one by one.
func fan(silent, steps, length int) api.System {
	s := api.System{States: silent + length, Labels: api.MaxLabels}
	for i := range length - 1 {
		s.Edges = append(s.Edges, api.Edge{From: silent + i, Label: 1, To: silent + i + 1})
	}
	for to := range silent {
		for from := range to {
			s.Edges = append(s.Edges, api.Edge{From: from, To: to})
		}
	}
	for i := range steps {
		s.Edges = append(s.Edges, api.Edge{From: silent - 1, Label: 1 + i/length%200, To: silent + i%length})
	}
	return s
}

// forgetful is a silent chain each state of which has a step with one label to the last one and, but for the last, with one label to itself, so many in turn: what is left behind is never had again.
func forgetful(n, labels int) api.System {
	s := chain(n, 0)
	s.Labels = 1 + labels
	for i := range n - 1 {
		s.Edges = append(s.Edges, api.Edge{From: i, Label: 1 + i%labels, To: n - 1}, api.Edge{From: i, Label: 1 + i%labels, To: i})
	}
	return s
}

// beside tells a system with a silent ring beside it, so great that the weak steps of all are too many for a system.
func beside(s api.System) api.System {
	const size = 101
	more := s
	more.States += size
	more.Edges = slices.Clone(s.Edges)
	for i := range size {
		more.Edges = append(more.Edges, api.Edge{From: s.States + i, To: s.States + (i+1)%size})
	}
	return more
}

// byChance tells systems of as many states as may be, some of them at the limits of labels and edges.
func byChance() []api.System {
	x := &numbers{at: 9}
	var list []api.System
	add := func(labels, many int, next func(api.System) api.Edge) {
		s := api.System{States: api.MaxPairs, Labels: labels, Start: api.MaxPairs - 1}
		for range many {
			s.Edges = append(s.Edges, next(s))
		}
		list = append(list, s)
	}
	for _, many := range []int{150, 400, 1500} {
		add(2, many, x.edge)
		add(3, many, x.edge)
		add(api.MaxLabels, many, x.edge)
	}
	add(3, api.MaxEdges, x.edge)
	// Silent steps that lead down alone are no cycles; the others lead down, too, or anywhere.
	for _, labels := range []int{2, 4, 30} {
		add(labels, 900, func(s api.System) api.Edge {
			e := x.edge(s)
			e.From = 1 + x.below(s.States-1)
			e.To = x.below(e.From)
			return e
		})
		add(labels, 1200, func(s api.System) api.Edge {
			if e := x.edge(s); e.Label != api.Tau {
				return e
			}
			from := 1 + x.below(s.States-1)
			return api.Edge{From: from, To: x.below(from)}
		})
	}
	return list
}

// byShape tells systems of as many states as may be, and their classes of weak bisimilarity.
func byShape() ([]api.System, [][]int) {
	halves, behind, hundred, tail := upTo(300), make([]int, 300), make([]int, 300), upTo(300)
	for state := range 300 {
		halves[state] /= 2
		hundred[state] = max(0, state-99)
	}
	behind[299] = 1
	systems := []api.System{{States: 300, Labels: 1, Start: 299}, chain(300, 1), chain(300, 0), pairs(300), ring(300), fan(100, 4800, 200), forgetful(300, 200)}
	return systems, [][]int{make([]int, 300), upTo(300), make([]int, 300), halves, behind, hundred, tail}
}

// great tells systems at the limits.
func great() []api.System {
	systems, _ := byShape()
	return append(systems, byChance()...)
}

// noSystems are systems that are none, one for each thing that may offend.
func noSystems() map[string]api.System {
	many := make([]api.Edge, api.MaxEdges+1)
	return map[string]api.System{
		"zero":             {},
		"states below 0":   {States: -1, Labels: 1},
		"states, far off":  {States: least, Labels: 1},
		"states above all": {States: api.MaxStates + 1, Labels: 1},
		"states, far":      {States: greatest, Labels: 1},
		"no label":         {States: 1},
		"labels above all": {States: 1, Labels: api.MaxLabels + 1},
		"many, no label":   {States: api.MaxStates},
		"the start":        {States: 2, Labels: 1, Start: 2},
		"the start, below": {States: 2, Labels: 1, Start: -1},
		"the start of 0":   {Labels: 1, Start: 1},
		"edges":            {States: 1, Labels: 1, Edges: many},
		"an edge of none":  {Labels: 1, Edges: many[:1]},
		"from":             {States: 2, Labels: 1, Edges: edges(2, 0, 0)},
		"to":               {States: 2, Labels: 1, Edges: edges(0, 0, least)},
		"to, of many":      {States: api.MaxPairs + 1, Labels: 1, Edges: edges(0, 0, greatest)},
		"a label":          {States: 2, Labels: 1, Edges: edges(0, 0, 0, 0, 1, 0)},
		"a label below":    {States: 2, Labels: 1, Edges: edges(0, -1, 0)},
	}
}
