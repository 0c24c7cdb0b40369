package tauscc_test

import (
	"slices"

	"semblance/api"
)

const (
	least    = -1 << 63
	greatest = 1<<63 - 1
)

// numbers tells one number after the other, the same ones each time.
type numbers struct{ at uint64 }

// below tells the next number of 0 to n - 1.
func (x *numbers) below(n int) int {
	x.at = x.at*6364136223846793005 + 1442695040888963407
	return int(x.at >> 33 % uint64(n))
}

// order tells the numbers 0 to n - 1 in some order.
func (x *numbers) order(n int) []int {
	all := upTo(n)
	for i := range all {
		j := i + x.below(n-i)
		all[i], all[j] = all[j], all[i]
	}
	return all
}

// system tells the next system of so many states: at most so many labels and edges, some of which stand twice.
func (x *numbers) system(states, labels, many int) api.System {
	s := api.System{States: states, Labels: 1 + x.below(labels), Start: x.below(states)}
	for range x.below(many + 1) {
		s.Edges = append(s.Edges, api.Edge{From: x.below(states), Label: x.below(s.Labels), To: x.below(states)})
	}
	return s
}

// mixed tells a system with its states numbered anew and its edges in another order.
func (x *numbers) mixed(s api.System) api.System {
	to := x.order(s.States)
	mixed := s
	mixed.Start = to[s.Start]
	mixed.Edges = nil
	for _, i := range x.order(len(s.Edges)) {
		e := s.Edges[i]
		mixed.Edges = append(mixed.Edges, api.Edge{From: to[e.From], Label: e.Label, To: to[e.To]})
	}
	return mixed
}

// leads is a relation as the words have it: of each two states, whether the second one comes from the first one by silent steps (none or more).
type leads [][]bool

// leadsOf goes from each state on its own, by silent steps, until no new state is found.
func leadsOf(s api.System) leads {
	silent := make([][]int, s.States)
	for _, e := range s.Edges {
		if e.Label == api.Tau {
			silent[e.From] = append(silent[e.From], e.To)
		}
	}
	r := make(leads, s.States)
	for p := range r {
		r[p] = make([]bool, s.States)
		r[p][p] = true
		for found := []int{p}; len(found) > 0; found = found[1:] {
			for _, q := range silent[found[0]] {
				if !r[p][q] {
					r[p][q] = true
					found = append(found, q)
				}
			}
		}
	}
	return r
}

// together tells whether each of two states comes from the other.
func (r leads) together(p, q int) bool { return r[p][q] && r[q][p] }

// first tells the least state of a state's class.
func (r leads) first(p int) int {
	q := 0
	for !r.together(p, q) {
		q++
	}
	return q
}

// classes tells the one form: a class is numbered by how many classes have a lesser least state.
func (r leads) classes() []int {
	form := make([]int, len(r))
	for p := range r {
		for q := range r.first(p) {
			if r.first(q) == q {
				form[p]++
			}
		}
	}
	return form
}

// collapsedBy tells the system of classes, edge by edge in the order of what they may be.
func collapsedBy(s api.System, classes []int) api.System {
	c := api.System{Labels: s.Labels}
	for _, class := range classes {
		c.States = max(c.States, class+1)
	}
	if s.States > 0 {
		c.Start = classes[s.Start]
	}
	there := map[api.Edge]int{}
	for _, e := range s.Edges {
		there[api.Edge{From: classes[e.From], Label: e.Label, To: classes[e.To]}]++
	}
	for from := range c.States {
		for label := range c.Labels {
			for to := range c.States {
				e := api.Edge{From: from, Label: label, To: to}
				if there[e] > 0 && !(label == api.Tau && from == to) {
					c.Edges = append(c.Edges, e)
				}
			}
		}
	}
	return c
}

// orderBy tells the order of states by their classes, as the words have it: each time all classes are asked anew which of them may come next.
func orderBy(s api.System, classes []int) []int {
	var order []int
	stands := make([]bool, s.States)
	for len(order) < s.States {
		next := slices.IndexFunc(upTo(s.States), func(p int) bool {
			return !stands[p] && !slices.ContainsFunc(s.Edges, func(e api.Edge) bool {
				return e.Label == api.Tau && classes[e.From] == classes[p] && classes[e.To] != classes[p] && !stands[e.To]
			})
		})
		for p, class := range classes {
			if class == classes[next] {
				order = append(order, p)
				stands[p] = true
			}
		}
	}
	return order
}

// upTo tells the states 0 to n - 1.
func upTo(n int) []int {
	states := make([]int, n)
	for i := range states {
		states[i] = i
	}
	return states
}

// small tells all systems of so many states and labels, each set of edges once.
func small(states, labels int) []api.System {
	var all []api.System
	for set := range 1 << (states * states * labels) {
		s := api.System{States: states, Labels: labels, Start: set % states}
		for bit := range states * states * labels {
			if set>>bit&1 == 1 {
				s.Edges = append(s.Edges, api.Edge{From: bit / (states * labels), Label: bit / states % labels, To: bit % states})
			}
		}
		all = append(all, s)
	}
	return all
}

// several tells systems of many shapes: without a state, all small ones, and some greater.
func several() []api.System {
	all := []api.System{{Labels: 1}, {Labels: api.MaxLabels}, {States: 1, Labels: 1}, {States: 7, Labels: 3, Start: 6}, given()}
	all = append(all, small(1, 3)...)
	all = append(all, small(2, 2)...)
	all = append(all, small(3, 1)...)
	all = append(all, small(4, 1)...)
	x := &numbers{}
	for n := range 600 {
		states := 1 + x.below(16)
		all = append(all, x.system(states, 1+n%4, 2*states))
	}
	for _, s := range []api.System{chain(17), ring(24), ladder(20), rings(30, 4), diamonds(31)} {
		all = append(all, s, x.mixed(s), x.mixed(s))
	}
	return all
}

// edges makes a list of edges of numbers, three an edge.
func edges(numbers ...int) []api.Edge {
	var list []api.Edge
	for three := range slices.Chunk(numbers, 3) {
		list = append(list, api.Edge{From: three[0], Label: three[1], To: three[2]})
	}
	return list
}

// given is the system of the document's examples.
func given() api.System {
	return api.System{States: 4, Labels: 2, Edges: edges(0, 0, 1, 1, 0, 0, 1, 1, 2, 2, 0, 3)}
}

// chain has one state behind the other, by silent steps; steps that are not silent lead back.
func chain(n int) api.System {
	s := api.System{States: n, Labels: 2}
	for i := range n - 1 {
		s.Edges = append(s.Edges, api.Edge{From: i, To: i + 1}, api.Edge{From: i + 1, Label: 1, To: i})
	}
	return s
}

// ring goes round by silent steps.
func ring(n int) api.System {
	s := api.System{States: n, Labels: 2, Start: n - 1}
	for i := range n {
		s.Edges = append(s.Edges, api.Edge{From: i, To: (i + 1) % n})
	}
	return s
}

// ladder goes up and down again by silent steps: each two states that are neighbours are a cycle.
func ladder(n int) api.System {
	s := api.System{States: n, Labels: 1}
	for i := range n - 1 {
		s.Edges = append(s.Edges, api.Edge{From: i, To: i + 1}, api.Edge{From: i + 1, To: i})
	}
	return s
}

// rings has rings of so many states, from each of which a silent step leads to the next one, and another step back.
func rings(n, size int) api.System {
	s := api.System{States: n, Labels: 3}
	for i := range n {
		begin := i / size * size
		end := min(begin+size, n)
		s.Edges = append(s.Edges, api.Edge{From: i, To: begin + (i+1-begin)%(end-begin)})
		if end < n {
			s.Edges = append(s.Edges, api.Edge{From: i, To: end}, api.Edge{From: end, Label: 2, To: i})
		}
	}
	return s
}

// diamonds has two ways by silent steps from each third state to the one behind it, so that states are come to again that are left already.
func diamonds(n int) api.System {
	s := api.System{States: n, Labels: 1}
	for i := 0; i+3 < n; i += 3 {
		s.Edges = append(s.Edges, edges(i, 0, i+1, i, 0, i+2, i+1, 0, i+3, i+2, 0, i+3)...)
	}
	return s
}

// great tells systems at the limits of states, labels and edges.
func great() []api.System {
	x := &numbers{at: 9}
	s := api.System{States: api.MaxStates, Labels: api.MaxLabels, Start: api.MaxStates - 1}
	for range api.MaxEdges {
		s.Edges = append(s.Edges, api.Edge{From: x.below(s.States), Label: x.below(s.Labels), To: x.below(s.States)})
	}
	few := api.System{States: api.MaxStates, Labels: 3, Start: 500}
	for range 4 * few.States {
		few.Edges = append(few.Edges, api.Edge{From: x.below(few.States), Label: x.below(3), To: x.below(few.States)})
	}
	// No cycle, and as many silent steps as there may be.
	down := api.System{States: api.MaxStates, Labels: 1, Start: 3}
	for range api.MaxEdges {
		from := 1 + x.below(down.States-1)
		down.Edges = append(down.Edges, api.Edge{From: from, To: x.below(from)})
	}
	all := []api.System{s, few, down, x.mixed(down), {States: 1000, Labels: 1, Start: 999}}
	for _, s := range []api.System{chain(1000), ring(1000), ladder(1000), rings(1000, 7), rings(1000, 300), diamonds(1000)} {
		all = append(all, s, x.mixed(s))
	}
	return all
}

// noSystems are systems that are none, one for each thing that may offend.
func noSystems() map[string]api.System {
	many := make([]api.Edge, api.MaxEdges+1)
	return map[string]api.System{
		"zero":             {},
		"states below 0":   {States: -1, Labels: 1},
		"states, far off":  {States: least, Labels: 1},
		"states above all": {States: api.MaxStates + 1, Labels: 1},
		"states, far":      {States: greatest, Labels: 1},
		"no label":         {States: 1},
		"labels above all": {States: 1, Labels: api.MaxLabels + 1},
		"the start":        {States: 2, Labels: 1, Start: 2},
		"the start, below": {States: 2, Labels: 1, Start: -1},
		"the start of 0":   {Labels: 1, Start: 1},
		"edges":            {States: 1, Labels: 1, Edges: many},
		"an edge of none":  {Labels: 1, Edges: many[:1]},
		"from":             {States: 2, Labels: 1, Edges: edges(2, 0, 0)},
		"to":               {States: 2, Labels: 1, Edges: edges(0, 0, least)},
		"a label":          {States: 2, Labels: 1, Edges: edges(0, 0, 0, 0, 1, 0)},
		"a label below":    {States: 2, Labels: 1, Edges: edges(0, -1, 0)},
	}
}
