package strong_test

import (
	"cmp"
	"fmt"
	"slices"

	"semblance/api"
)

// numbers tells one number after the other, the same ones each time.
type numbers struct{ at uint64 }

// below tells the next number of 0 to n - 1.
func (x *numbers) below(n int) int {
	x.at = x.at*6364136223846793005 + 1442695040888963407
	return int(x.at >> 33 % uint64(n))
}

// system tells the next system of so many states: at most so many labels and edges, some of which stand twice.
func (x *numbers) system(states, labels, many int) api.System {
	s := api.System{States: states, Labels: 1 + x.below(labels), Start: x.below(states)}
	for range x.below(many + 1) {
		s.Edges = append(s.Edges, api.Edge{From: x.below(states), Label: x.below(s.Labels), To: x.below(states)})
	}
	return s
}

// oneForm tells classes in the one form: a class's number is that of the classes whose least state is less.
func oneForm(classes []int) []int {
	form := make([]int, len(classes))
	for state, class := range classes {
		for other := range slices.Index(classes, class) {
			if slices.Index(classes, classes[other]) == other {
				form[state]++
			}
		}
	}
	return form
}

// related is a relation of states.
type related [][]bool

// meets tells whether each step of p is met by one of q.
func (r related) meets(s api.System, p, q int) bool {
	for _, e := range s.Edges {
		if e.From == p && !slices.ContainsFunc(s.Edges, func(f api.Edge) bool {
			return f.From == q && f.Label == e.Label && r[e.To][f.To]
		}) {
			return false
		}
	}
	return true
}

// bisimilar tells the classes of strong bisimilarity as the words have it: of all pairs those are left out, until none is, whose steps are not met.
func bisimilar(s api.System) []int {
	r := make(related, s.States)
	for p := range r {
		r[p] = slices.Repeat([]bool{true}, s.States)
	}
	for changed := true; changed; {
		changed = false
		for p := range r {
			for q := range r {
				if r[p][q] && !(r.meets(s, p, q) && r.meets(s, q, p)) {
					r[p][q], r[q][p] = false, false
					changed = true
				}
			}
		}
	}
	classes := make([]int, s.States)
	for p := range r {
		classes[p] = slices.Index(r[p], true)
	}
	return oneForm(classes)
}

// byRounds tells the classes of strong bisimilarity of a great system: round by round by the labels and classes that steps lead to, until no class is parted.
func byRounds(s api.System) []int {
	classes, many := make([]int, s.States), 1
	for {
		steps := make([][]api.Step, s.States)
		for _, e := range s.Edges {
			steps[e.From] = append(steps[e.From], api.Step{Label: e.Label, To: classes[e.To]})
		}
		kinds := map[string]int{}
		next := make([]int, s.States)
		for state, list := range steps {
			slices.SortFunc(list, func(a, b api.Step) int { return cmp.Or(a.Label-b.Label, a.To-b.To) })
			kind := fmt.Sprint(classes[state], slices.Compact(list))
			if _, there := kinds[kind]; !there {
				kinds[kind] = len(kinds)
			}
			next[state] = kinds[kind]
		}
		if len(kinds) == many {
			return next
		}
		classes, many = next, len(kinds)
	}
}

// model is a run as the words have it: of each state its block and its heap, by any numbers.
type model struct {
	s      api.System
	blocks []int
	heaps  []int
	taken  int
}

func modelOf(s api.System) *model {
	return &model{s: s, blocks: make([]int, s.States), heaps: make([]int, s.States)}
}

// where tells the states whose number in a list is n.
func where(list []int, n int) []int {
	var states []int
	for state, number := range list {
		if number == n {
			states = append(states, state)
		}
	}
	return states
}

// may tells whether a list is a taking.
func (m *model) may(taking []int) bool {
	if m.s.States == 0 || len(taking) == 0 || taking[0] < 0 || taking[0] >= m.s.States {
		return false
	}
	first := taking[0]
	block, heap := where(m.blocks, m.blocks[first]), where(m.heaps, m.heaps[first])
	switch {
	case !slices.Equal(taking, block):
		return false
	case m.taken == 0:
		return true
	}
	return len(block) < len(heap) && len(block) <= len(heap)-len(block)
}

// split splits all blocks, label by label, into the states that have a step into a target and those that have none.
func (m *model) split(target []int) {
	for label := range m.s.Labels {
		has := make([]int, m.s.States)
		for _, e := range m.s.Edges {
			if e.Label == label && slices.Contains(target, e.To) {
				has[e.From] = 1
			}
		}
		for state, block := range m.blocks {
			m.blocks[state] = 2*block + has[state]
		}
		m.blocks = oneForm(m.blocks)
	}
}

// take plays a list that is a taking.
func (m *model) take(taking []int) {
	m.taken++
	heap := m.heaps[taking[0]]
	for _, state := range taking {
		m.heaps[state] = m.taken
	}
	m.split(taking)
	m.split(where(m.heaps, heap))
}

// isRun tells whether all heaps have one block, and there was a taking, if there is a state.
func (m *model) isRun() bool {
	if m.taken == 0 {
		return m.s.States == 0
	}
	for p, block := range m.blocks {
		for q := range p {
			if m.heaps[p] == m.heaps[q] && block != m.blocks[q] {
				return false
			}
		}
	}
	return true
}

// replay tells the classes of a run, if it is one.
func (m *model) replay(takings [][]int) ([]int, bool) {
	for _, taking := range takings {
		if !m.may(taking) {
			return nil, false
		}
		m.take(taking)
	}
	if !m.isRun() {
		return nil, false
	}
	return oneForm(m.blocks), true
}

// choices tells all takings that may be next.
func (m *model) choices() [][]int {
	var all [][]int
	for state := range m.s.States {
		block := where(m.blocks, m.blocks[state])
		if block[0] == state && m.may(block) {
			all = append(all, block)
		}
	}
	return all
}

// lists tells all lists of at most so many of some numbers.
func lists(most int, some ...int) [][]int {
	all := [][]int{nil}
	for i := 0; i < len(all); i++ {
		if len(all[i]) < most {
			for _, n := range some {
				all = append(all, append(slices.Clone(all[i]), n))
			}
		}
	}
	return all
}

// upTo tells the states 0 to n - 1.
func upTo(n int) []int {
	states := make([]int, n)
	for i := range states {
		states[i] = i
	}
	return states
}

// small tells all systems of so many states and labels, each set of edges once.
func small(states, labels int) []api.System {
	var all []api.System
	for set := range 1 << (states * states * labels) {
		s := api.System{States: states, Labels: labels}
		for bit := range states * states * labels {
			if set>>bit&1 == 1 {
				s.Edges = append(s.Edges, api.Edge{From: bit / (states * labels), Label: bit / states % labels, To: bit % states})
			}
		}
		all = append(all, s)
	}
	return all
}

// several tells systems of many shapes: without a state, all small ones, and some greater.
func several() []api.System {
	all := []api.System{{Labels: 1}, {Labels: api.MaxLabels}, {States: 1, Labels: 1}, {States: 7, Labels: 3}, given()}
	all = append(all, small(1, 3)...)
	all = append(all, small(2, 2)...)
	all = append(all, small(3, 1)...)
	x := &numbers{}
	for n := range 300 {
		states := 1 + x.below(12)
		all = append(all, x.system(states, 1+n%4, 2*states))
	}
	return append(all, chain(17), ring(24, 8), tree(31))
}

// given is the system of the document's examples.
func given() api.System {
	return api.System{States: 4, Labels: 2, Edges: []api.Edge{{From: 0, Label: 1, To: 1}, {From: 1, Label: 1, To: 2}, {From: 3, Label: 1, To: 2}}}
}

// chain has one state behind the other: no two are bisimilar.
func chain(n int) api.System {
	s := api.System{States: n, Labels: 2}
	for i := range n - 1 {
		s.Edges = append(s.Edges, api.Edge{From: i, Label: 1, To: i + 1})
	}
	return s
}

// ring goes round, with one silent loop in every so many states.
func ring(n, every int) api.System {
	s := api.System{States: n, Labels: 2}
	for i := range n {
		s.Edges = append(s.Edges, api.Edge{From: i, Label: 1, To: (i + 1) % n})
		if i%every == every-1 {
			s.Edges = append(s.Edges, api.Edge{From: i, To: i})
		}
	}
	return s
}

// tree has two branches at each state: states of one height are bisimilar, where it is full.
func tree(n int) api.System {
	s := api.System{States: n, Labels: 1}
	for i := 1; i < n; i++ {
		s.Edges = append(s.Edges, api.Edge{From: (i - 1) / 2, To: i})
	}
	return s
}

// great tells systems at the limits of states, labels and edges.
func great() []api.System {
	x := &numbers{at: 9}
	s := api.System{States: api.MaxStates, Labels: api.MaxLabels, Start: api.MaxStates - 1}
	for range api.MaxEdges {
		s.Edges = append(s.Edges, api.Edge{From: x.below(s.States), Label: x.below(s.Labels), To: x.below(s.States)})
	}
	few := api.System{States: api.MaxStates, Labels: 2}
	for range 3 * few.States {
		few.Edges = append(few.Edges, api.Edge{From: x.below(few.States), Label: x.below(2), To: x.below(few.States)})
	}
	last := api.MaxLabels - 1
	ends := api.System{States: api.MaxStates, Labels: api.MaxLabels, Edges: []api.Edge{{From: 999, Label: last, To: 0}}}
	return []api.System{s, few, ends, ring(1000, 125), ring(960, 32), tree(1000), tree(511), {States: 1000, Labels: 1}, chain(1000), ring(1000, 1000)}
}
