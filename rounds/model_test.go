package rounds_test

import (
	"slices"

	"semblance/api"
)

// numbers tells one number after the other, the same ones each time.
type numbers struct{ at uint64 }

// below tells the next number of 0 to n - 1.
func (x *numbers) below(n int) int {
	x.at = x.at*6364136223846793005 + 1442695040888963407
	return int(x.at >> 33 % uint64(n))
}

// system tells the next system of so many states: at most so many labels and edges, some of which stand twice.
func (x *numbers) system(states, labels, many int) api.System {
	s := api.System{States: states, Labels: 1 + x.below(labels), Start: x.below(states)}
	for range x.below(many + 1) {
		s.Edges = append(s.Edges, api.Edge{From: x.below(states), Label: x.below(s.Labels), To: x.below(states)})
	}
	return s
}

// together is a round as the words have it: of each two states, whether they are together.
type together [][]bool

// first is the round 0.
func first(n int) together {
	r := make(together, n)
	for p := range r {
		r[p] = slices.Repeat([]bool{true}, n)
	}
	return r
}

// classes tells a round in the one form: a class is numbered by how many classes have a lesser least state.
func (r together) classes() []int {
	least := make([]int, len(r))
	for p := range r {
		least[p] = slices.Index(r[p], true)
	}
	form := make([]int, len(r))
	for p := range r {
		for q := range least[p] {
			if least[q] == q {
				form[p]++
			}
		}
	}
	return form
}

// leads tells whether a state has a step with a label into the class of another one.
func (r together) leads(s api.System, from, label, class int) bool {
	return slices.ContainsFunc(s.Edges, func(e api.Edge) bool {
		return e.From == from && e.Label == label && r[e.To][class]
	})
}

// alike tells whether for each label the steps of two states lead to the same classes.
func (r together) alike(s api.System, p, q int) bool {
	for label := range s.Labels {
		for class := range s.States {
			if r.leads(s, p, label, class) != r.leads(s, q, label, class) {
				return false
			}
		}
	}
	return true
}

// next tells the round behind one.
func (r together) next(s api.System) together {
	n := first(s.States)
	for p := range r {
		for q := range r {
			n[p][q] = r[p][q] && r.alike(s, p, q)
		}
	}
	return n
}

// roundsOf tells the classes of all rounds, as the words have it.
func roundsOf(s api.System) [][]int {
	r := first(s.States)
	all := [][]int{r.classes()}
	for {
		r = r.next(s)
		c := r.classes()
		if slices.Equal(c, all[len(all)-1]) {
			return all
		}
		all = append(all, c)
	}
}

// rankIn tells the least of some rounds in which two states are not together.
func rankIn(all [][]int, p, q int) int {
	return slices.IndexFunc(all, func(classes []int) bool { return classes[p] != classes[q] })
}

// upTo tells the states 0 to n - 1.
func upTo(n int) []int {
	states := make([]int, n)
	for i := range states {
		states[i] = i
	}
	return states
}

// small tells all systems of so many states and labels, each set of edges once.
func small(states, labels int) []api.System {
	var all []api.System
	for set := range 1 << (states * states * labels) {
		s := api.System{States: states, Labels: labels}
		for bit := range states * states * labels {
			if set>>bit&1 == 1 {
				s.Edges = append(s.Edges, api.Edge{From: bit / (states * labels), Label: bit / states % labels, To: bit % states})
			}
		}
		all = append(all, s)
	}
	return all
}

// several tells systems of many shapes: without a state, all small ones, and some greater.
func several() []api.System {
	all := []api.System{{Labels: 1}, {Labels: api.MaxLabels}, {States: 1, Labels: 1}, {States: 7, Labels: 3}, given()}
	all = append(all, small(1, 3)...)
	all = append(all, small(2, 2)...)
	all = append(all, small(3, 1)...)
	x := &numbers{}
	for n := range 300 {
		states := 1 + x.below(12)
		all = append(all, x.system(states, 1+n%4, 2*states))
	}
	return append(all, chain(17), ring(24, 8), tree(31))
}

// edges makes a list of edges of numbers, three an edge.
func edges(numbers ...int) []api.Edge {
	var list []api.Edge
	for three := range slices.Chunk(numbers, 3) {
		list = append(list, api.Edge{From: three[0], Label: three[1], To: three[2]})
	}
	return list
}

// given is the system of the document's examples.
func given() api.System {
	return api.System{States: 4, Labels: 2, Edges: edges(0, 1, 1, 1, 1, 2, 3, 1, 2)}
}

// chain has one state behind the other: each round parts one more from those ahead of it.
func chain(n int) api.System {
	s := api.System{States: n, Labels: 2}
	for i := range n - 1 {
		s.Edges = append(s.Edges, api.Edge{From: i, Label: 1, To: i + 1})
	}
	return s
}

// back is a chain in which each state has steps to states ahead of it, too: it has as many edges as there may be.
func back(n int) api.System {
	s := chain(n)
	for i := range n {
		for j := 0; j <= i && len(s.Edges) < api.MaxEdges && j < 10; j++ {
			s.Edges = append(s.Edges, api.Edge{From: i, To: i - j})
		}
	}
	return s
}

// ring goes round, with one silent loop in every so many states.
func ring(n, every int) api.System {
	s := api.System{States: n, Labels: 2}
	for i := range n {
		s.Edges = append(s.Edges, api.Edge{From: i, Label: 1, To: (i + 1) % n})
		if i%every == every-1 {
			s.Edges = append(s.Edges, api.Edge{From: i, To: i})
		}
	}
	return s
}

// tree has two branches at each state: states of one height are bisimilar, where it is full.
func tree(n int) api.System {
	s := api.System{States: n, Labels: 1}
	for i := 1; i < n; i++ {
		s.Edges = append(s.Edges, api.Edge{From: (i - 1) / 2, To: i})
	}
	return s
}

// great tells systems at the limits of states, labels and edges.
func great() []api.System {
	x := &numbers{at: 9}
	s := api.System{States: api.MaxStates, Labels: api.MaxLabels, Start: api.MaxStates - 1}
	for range api.MaxEdges {
		s.Edges = append(s.Edges, api.Edge{From: x.below(s.States), Label: x.below(s.Labels), To: x.below(s.States)})
	}
	few := api.System{States: api.MaxStates, Labels: 2}
	for range 3 * few.States {
		few.Edges = append(few.Edges, api.Edge{From: x.below(few.States), Label: x.below(2), To: x.below(few.States)})
	}
	last := api.MaxLabels - 1
	ends := api.System{States: api.MaxStates, Labels: api.MaxLabels, Edges: edges(999, last, 0)}
	return []api.System{s, few, ends, ring(1000, 125), ring(960, 32), tree(1000), tree(511), {States: 1000, Labels: 1}, chain(1000), back(1000), ring(1000, 1000)}
}

// noSystems are systems that are none, one for each thing that may offend.
func noSystems() map[string]api.System {
	many := make([]api.Edge, api.MaxEdges+1)
	return map[string]api.System{
		"zero":             {},
		"states below 0":   {States: -1, Labels: 1},
		"states above all": {States: api.MaxStates + 1, Labels: 1},
		"states, far":      {States: greatest, Labels: 1},
		"no label":         {States: 1},
		"labels above all": {States: 1, Labels: api.MaxLabels + 1},
		"the start":        {States: 2, Labels: 1, Start: 2},
		"the start of 0":   {Labels: 1, Start: 1},
		"edges":            {States: 1, Labels: 1, Edges: many},
		"an edge of none":  {Labels: 1, Edges: many[:1]},
		"from":             {States: 2, Labels: 1, Edges: edges(2, 0, 0)},
		"to":               {States: 2, Labels: 1, Edges: edges(0, 0, least)},
		"a label":          {States: 2, Labels: 1, Edges: edges(0, 0, 0, 0, 1, 0)},
		"many states":      {States: api.MaxPairs + 1, Labels: 1, Edges: edges(0, 1, 0)},
	}
}
