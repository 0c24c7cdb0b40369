package distinguish_test

import (
	"math/big"
	"slices"

	"semblance/api"
)

// Numbers of the document.
const (
	maxFormula = 5000
	maxPairs   = 300
)

// boundOf tells a bound as the words have it, of a depth that is not great.
func boundOf(depth, degree int) int {
	if depth < 1 {
		return 1
	}
	if degree < 1 {
		return 3
	}
	product := new(big.Int).Mul(big.NewInt(int64(degree)), big.NewInt(int64(boundOf(depth-1, degree)+1)))
	sum := product.Add(product, big.NewInt(1))
	if sum.Cmp(big.NewInt(maxFormula)) > 0 {
		return maxFormula + 1
	}
	return int(sum.Int64())
}

// parting is what the words say of a system's states: their ranks and formulas.
type parting struct {
	s      api.System
	has    []bool // of a state, a label and a state whether there is that step
	ranks  [][]int
	known  map[[2]int][]api.Node
	labels []int
}

// partingOf makes what the words say of a system.
func partingOf(s api.System) *parting {
	m := &parting{s: s, has: make([]bool, s.States*s.Labels*s.States), known: map[[2]int][]api.Node{}}
	for _, e := range s.Edges {
		m.has[m.at(e.From, e.Label, e.To)] = true
		m.labels = append(m.labels, e.Label)
	}
	slices.Sort(m.labels)
	m.labels = slices.Compact(m.labels)
	m.rank()
	return m
}

func (m *parting) at(from, label, to int) int { return (from*m.s.Labels+label)*m.s.States + to }

// ends tells where the steps of a state with a label lead.
func (m *parting) ends(state, label int) []int {
	var ends []int
	for to := range m.s.States {
		if m.has[m.at(state, label, to)] {
			ends = append(ends, to)
		}
	}
	return ends
}

// rank gives two states a rank, round by round: the least one by which a step of one of them leads where none of the other one leads to the like.
func (m *parting) rank() {
	m.ranks = make([][]int, m.s.States)
	for p := range m.ranks {
		m.ranks[p] = slices.Repeat([]int{-1}, m.s.States)
	}
	for round, changed := 1, true; changed; round++ {
		changed = false
		for p := range m.ranks {
			for q := range p {
				if m.ranks[p][q] < 0 && (m.leads(p, q, round) || m.leads(q, p, round)) {
					m.ranks[p][q], m.ranks[q][p] = round, round
					changed = true
				}
			}
		}
	}
}

// leads tells whether a step of p leads where no step of q leads to a state that was together with it in the round ahead of one.
func (m *parting) leads(p, q, round int) bool {
	for _, label := range m.labels {
		for _, end := range m.ends(p, label) {
			if !slices.ContainsFunc(m.ends(q, label), func(other int) bool { return m.together(end, other, round-1) }) {
				return true
			}
		}
	}
	return false
}

// together tells whether two states are so in a round.
func (m *parting) together(p, q, round int) bool { return m.ranks[p][q] < 0 || m.ranks[p][q] > round }

// formula tells the formula of two states, nil if it is too great: as the words have it, each one written out.
func (m *parting) formula(p, q int) []api.Node {
	f, there := m.known[[2]int{p, q}]
	if !there {
		f = m.made(p, q)
		m.known[[2]int{p, q}] = f
	}
	return f
}

func (m *parting) made(p, q int) []api.Node {
	rank := m.ranks[p][q]
	for _, label := range m.labels {
		for _, end := range m.ends(p, label) {
			others := m.ends(q, label)
			if !slices.ContainsFunc(others, func(other int) bool { r := m.ranks[end][other]; return r == -1 || r >= rank }) {
				return closed(m.joined(end, others), api.Node{Op: api.FormMay, Label: label})
			}
		}
	}
	return closed(m.formula(q, p), api.Node{Op: api.FormNot})
}

// joined tells the formulas of a state and of others, joined.
func (m *parting) joined(p int, others []int) []api.Node {
	var parts [][]api.Node
	for _, q := range others {
		f := m.formula(p, q)
		if f == nil {
			return nil
		}
		if !slices.ContainsFunc(parts, func(part []api.Node) bool { return slices.Equal(part, f) }) {
			parts = append(parts, f)
		}
	}
	if len(parts) == 0 {
		return []api.Node{{Op: api.FormTrue}}
	}
	all := parts[0]
	for _, part := range parts[1:] {
		all = closed(slices.Concat(all, part), api.Node{Op: api.FormAnd})
		if all == nil {
			return nil
		}
	}
	return all
}

// closed tells nodes with one behind them, nil if there are too many, or none.
func closed(f []api.Node, node api.Node) []api.Node {
	if f == nil || len(f) >= maxFormula {
		return nil
	}
	return append(slices.Clone(f), node)
}

// size tells how great the formula of two states is.
func (m *parting) size(p, q int) int {
	if m.ranks[p][q] < 0 {
		return 0
	}
	if f := m.formula(p, q); f != nil {
		return len(f)
	}
	return maxFormula + 1
}

// classes tells the classes of strong bisimilarity, in the one form.
func (m *parting) classes() []int {
	var firsts []int
	classes := make([]int, m.s.States)
	for p := range classes {
		class := slices.IndexFunc(firsts, func(q int) bool { return m.ranks[p][q] < 0 })
		if class < 0 {
			class = len(firsts)
			firsts = append(firsts, p)
		}
		classes[p] = class
	}
	return classes
}
