package distinguish_test

import (
	"slices"

	"semblance/api"
)

const (
	least    = -1 << 63
	greatest = 1<<63 - 1
)

// numbers tells one number after the other, the same ones each time.
type numbers struct{ at uint64 }

// below tells the next number of 0 to n - 1.
func (x *numbers) below(n int) int {
	x.at = x.at*6364136223846793005 + 1442695040888963407
	return int(x.at >> 33 % uint64(n))
}

// system tells the next system of so many states: at most so many labels and edges, some of which stand twice.
func (x *numbers) system(states, labels, many int) api.System {
	s := api.System{States: states, Labels: 1 + x.below(labels), Start: x.below(states)}
	for range x.below(many + 1) {
		s.Edges = append(s.Edges, edge(x.below(states), x.below(s.Labels), x.below(states)))
	}
	return s
}

// layered tells a system whose states step to those of the next layer alone, so that ranks are great and ends are many.
func (x *numbers) layered(layers, wide, labels int) api.System {
	s := api.System{States: layers * wide, Labels: labels}
	for from := range (layers - 1) * wide {
		for range 1 + x.below(2*wide) {
			s.Edges = append(s.Edges, edge(from, x.below(labels), (from/wide+1)*wide+x.below(wide)))
		}
	}
	return s
}

func edge(from, label, to int) api.Edge { return api.Edge{From: from, Label: label, To: to} }

// edges makes a list of edges of numbers, three an edge.
func edges(numbers ...int) []api.Edge {
	var list []api.Edge
	for three := range slices.Chunk(numbers, 3) {
		list = append(list, edge(three[0], three[1], three[2]))
	}
	return list
}

// given is the system of the document's examples.
func given() api.System {
	return api.System{States: 4, Labels: 2, Edges: edges(0, 1, 1, 1, 1, 2, 3, 1, 2)}
}

// small tells all systems of so many states and labels, each set of edges once.
func small(states, labels int) []api.System {
	var all []api.System
	for set := range 1 << (states * states * labels) {
		s := api.System{States: states, Labels: labels, Start: set % states}
		for bit := range states * states * labels {
			if set>>bit&1 == 1 {
				s.Edges = append(s.Edges, edge(bit/(states*labels), bit/states%labels, bit%states))
			}
		}
		all = append(all, s)
	}
	return all
}

// several tells systems of many shapes: without a state, all small ones, and some greater.
func several() []api.System {
	all := []api.System{{Labels: 1}, {Labels: api.MaxLabels}, {States: 1, Labels: 1}, {States: 7, Labels: 3, Start: 6}, given()}
	all = append(all, small(1, 3)...)
	all = append(all, small(2, 2)...)
	all = append(all, small(3, 1)...)
	x := &numbers{}
	for n := range 400 {
		states := 1 + x.below(12)
		all = append(all, x.system(states, 1+n%4, 1+x.below(4*states)))
	}
	for n := range 60 {
		all = append(all, x.layered(2+x.below(5), 1+x.below(5), 1+n%3))
	}
	return append(all, chain(17), ring(24, 8), tree(31), doubling(4), doubling(12), sums(3, 0, 7, 2))
}

// chain has one state behind the other.
func chain(n int) api.System {
	s := api.System{States: n, Labels: 2}
	for i := range n - 1 {
		s.Edges = append(s.Edges, edge(i, 1, i+1))
	}
	return s
}

// ring goes round, with one silent loop in every so many states.
func ring(n, every int) api.System {
	s := api.System{States: n, Labels: 2}
	for i := range n {
		s.Edges = append(s.Edges, edge(i, 1, (i+1)%n))
		if i%every == every-1 {
			s.Edges = append(s.Edges, edge(i, 0, i))
		}
	}
	return s
}

// tree has two branches at each state: states of one height are bisimilar, where it is full.
func tree(n int) api.System {
	s := api.System{States: n, Labels: 1}
	for i := 1; i < n; i++ {
		s.Edges = append(s.Edges, edge((i-1)/2, 0, i))
	}
	return s
}

// doubling has floors of three states, with a formula of the first and the second one, and one of the first and the third one, that are unlike, and each have both of the floor behind as parts.
func doubling(floors int) api.System {
	s := api.System{States: 3*floors + 3, Labels: 3}
	for floor := range floors {
		here, next := 3*floor, 3*floor+3
		s.Edges = append(s.Edges, edge(here, 1, next), edge(here, 2, next))
		s.Edges = append(s.Edges, edge(here+1, 1, next+1), edge(here+1, 1, next+2), edge(here+1, 2, next))
		s.Edges = append(s.Edges, edge(here+2, 1, next), edge(here+2, 2, next+1), edge(here+2, 2, next+2))
	}
	last := 3 * floors
	s.Edges = append(s.Edges, edge(last, 1, last), edge(last, 2, last), edge(last+1, 2, last), edge(last+2, 1, last))
	return s
}

// sums has the states 0 and 1, whose formula is <1> of one for each of these heights, each of height + 2 nodes: both step to states that go on for so many steps, and 0 to 2, too, which goes on for ever.
func sums(heights ...int) api.System {
	top := slices.Max(heights)
	// The state 3 + n goes on for n steps.
	s := api.System{States: 4 + top, Labels: 2, Edges: edges(0, 1, 2, 2, 1, 2)}
	for n := range top {
		s.Edges = append(s.Edges, edge(4+n, 1, 3+n))
	}
	for _, height := range heights {
		s.Edges = append(s.Edges, edge(0, 1, 3+height), edge(1, 1, 3+height))
	}
	return s
}

// heightsOf tells heights whose sums have a formula of so many nodes: each of them makes height + 3.
func heightsOf(nodes int) []int {
	var heights []int
	for height := 0; nodes >= 2*height+7; height++ {
		heights = append(heights, height)
		nodes -= height + 3
	}
	return append(heights, nodes-3)
}

// great tells systems at the limits of pairs, labels and edges.
func great() []api.System {
	x := &numbers{at: 9}
	full := api.System{States: maxPairs, Labels: 1, Start: 7}
	many := api.System{States: maxPairs, Labels: api.MaxLabels, Start: maxPairs - 1}
	one := api.System{States: maxPairs, Labels: 2}
	for range api.MaxEdges {
		full.Edges = append(full.Edges, edge(10+x.below(maxPairs-10), 0, x.below(maxPairs)))
		many.Edges = append(many.Edges, edge(x.below(maxPairs), x.below(api.MaxLabels), x.below(maxPairs)))
		one.Edges = append(one.Edges, edge(x.below(33), x.below(2), x.below(maxPairs)))
	}
	few := api.System{States: maxPairs, Labels: 2}
	for range 2 * maxPairs {
		few.Edges = append(few.Edges, edge(x.below(maxPairs), x.below(2), x.below(maxPairs)))
	}
	last := api.MaxLabels - 1
	ends := api.System{States: maxPairs, Labels: api.MaxLabels, Edges: edges(maxPairs-1, last, 0)}
	same := api.System{States: maxPairs, Labels: 1, Edges: make([]api.Edge, api.MaxEdges)}
	return []api.System{full, many, one, few, ends, same, chain(maxPairs), ring(maxPairs, 25), tree(maxPairs), doubling(99), {States: maxPairs, Labels: 1}, x.layered(60, 5, 2), x.layered(10, 30, 3)}
}

// noSystems are systems that are none, one for each thing that may offend.
func noSystems() map[string]api.System {
	many := make([]api.Edge, api.MaxEdges+1)
	return map[string]api.System{
		"zero":             {},
		"states below 0":   {States: -1, Labels: 1},
		"states above all": {States: api.MaxStates + 1, Labels: 1},
		"states, far":      {States: greatest, Labels: 1},
		"no label":         {States: 1},
		"labels above all": {States: 1, Labels: api.MaxLabels + 1},
		"the start":        {States: 2, Labels: 1, Start: 2},
		"the start of 0":   {Labels: 1, Start: 1},
		"edges":            {States: 1, Labels: 1, Edges: many},
		"an edge of none":  {Labels: 1, Edges: many[:1]},
		"from":             {States: 2, Labels: 1, Edges: edges(2, 0, 0)},
		"to":               {States: 2, Labels: 1, Edges: edges(0, 0, least)},
		"a label":          {States: 2, Labels: 1, Edges: edges(0, 0, 0, 0, 1, 0)},
		"many states":      {States: maxPairs + 1, Labels: 1, Edges: edges(0, 1, 0)},
	}
}
