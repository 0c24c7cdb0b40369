package witness_test

import (
	"cmp"
	"iter"
	"slices"

	"semblance/api"
	"semblance/witness"
)

// oneForm tells classes in the one form: a class's number is that of the classes whose least state is less.
func oneForm(classes []int) []int {
	form, numbers := make([]int, len(classes)), map[int]int{}
	for state, class := range classes {
		if _, there := numbers[class]; !there {
			numbers[class] = len(numbers)
		}
		form[state] = numbers[class]
	}
	return form
}

// model is a system, and how its states lead to each other.
type model struct {
	steps  [][]api.Step // of each state, by label and where they lead, each once
	silent [][]int      // of each state those that silent steps lead to, none or more
}

// modelOf goes the steps of each state, one state after the other.
func modelOf(s api.System) *model {
	m := &model{steps: make([][]api.Step, s.States), silent: make([][]int, s.States)}
	for _, e := range s.Edges {
		m.steps[e.From] = append(m.steps[e.From], api.Step{Label: e.Label, To: e.To})
	}
	for state, steps := range m.steps {
		slices.SortFunc(steps, func(a, b api.Step) int { return cmp.Or(a.Label-b.Label, a.To-b.To) })
		m.steps[state] = slices.Compact(steps)
	}
	for state := range m.silent {
		there := make([]bool, s.States)
		there[state] = true
		m.silent[state] = []int{state}
		for i := 0; i < len(m.silent[state]); i++ {
			for _, step := range m.steps[m.silent[state][i]] {
				if step.Label == api.Tau && !there[step.To] {
					there[step.To] = true
					m.silent[state] = append(m.silent[state], step.To)
				}
			}
		}
	}
	return m
}

// relation tells whether two states are related.
type relation func(p, q int) bool

// manner tells whether q meets a step of p.
type manner func(m *model, are relation, p int, step api.Step, q int) bool

// strongly tells it as the words of a strong bisimulation, and of a simulation, have it.
func strongly(m *model, are relation, _ int, step api.Step, q int) bool {
	return slices.ContainsFunc(m.steps[q], func(other api.Step) bool {
		return other.Label == step.Label && are(step.To, other.To)
	})
}

// branchingly tells it as the words of a branching bisimulation have it.
func branchingly(m *model, are relation, p int, step api.Step, q int) bool {
	if step.Label == api.Tau && are(step.To, q) {
		return true
	}
	return slices.ContainsFunc(m.silent[q], func(q1 int) bool {
		return are(p, q1) && strongly(m, are, p, step, q1)
	})
}

// weakly tells it as the words of a weak bisimulation have it.
func weakly(m *model, are relation, _ int, step api.Step, q int) bool {
	isEnd := func(end int) bool { return are(step.To, end) }
	if step.Label == api.Tau {
		return slices.ContainsFunc(m.silent[q], isEnd)
	}
	return slices.ContainsFunc(m.silent[q], func(q1 int) bool {
		return slices.ContainsFunc(m.steps[q1], func(other api.Step) bool {
			return other.Label == step.Label && slices.ContainsFunc(m.silent[other.To], isEnd)
		})
	})
}

// firstFail tells the first step of the pairs, in their order, that is not met, and whether there is none.
func (m *model) firstFail(pairs iter.Seq[[2]int], are relation, meets manner) (witness.Fail, bool) {
	for pair := range pairs {
		for _, step := range m.steps[pair[0]] {
			if !meets(m, are, pair[0], step, pair[1]) {
				return witness.Fail{P: pair[0], Q: pair[1], Label: step.Label, To: step.To}, false
			}
		}
	}
	return witness.Fail{}, true
}

// byClasses tells the first step that is not met, where who is together is related.
func (m *model) byClasses(classes []int, meets manner) (witness.Fail, bool) {
	return m.firstFail(together(classes), func(p, q int) bool { return classes[p] == classes[q] }, meets)
}

// byPairs tells it where the pairs are related.
func (m *model) byPairs(pairs [][2]int) (witness.Fail, bool) {
	related := map[[2]int]struct{}{}
	for _, pair := range pairs {
		related[pair] = struct{}{}
	}
	return m.firstFail(slices.Values(pairs), func(p, q int) bool { _, are := related[[2]int{p, q}]; return are }, strongly)
}

// together tells the pairs of who is together, in their order.
func together(classes []int) iter.Seq[[2]int] {
	return func(yield func([2]int) bool) {
		for p := range classes {
			for q := range classes {
				if classes[p] == classes[q] && !yield([2]int{p, q}) {
					return
				}
			}
		}
	}
}

// offers tells, of a great system, the kinds of steps (a label, and a class that is led to, as one number) that each state has behind silent ones that end where something holds and, if so, with silent ones behind them; rising.
func (m *model) offers(classes []int, through relation, behind bool) [][]int {
	tails, all := make([][]int, len(classes)), make([][]int, len(classes))
	ends := make([][]int, len(classes)) // of each state the classes in which it may end
	for p, silent := range m.silent {
		ends[p] = []int{classes[p]}
		if behind {
			for _, q := range silent {
				ends[p] = append(ends[p], classes[q])
			}
		}
		ends[p] = rising(ends[p])
	}
	for p, steps := range m.steps {
		for _, step := range steps {
			for _, end := range ends[step.To] {
				tails[p] = append(tails[p], step.Label*len(classes)+end)
			}
		}
		tails[p] = rising(tails[p])
	}
	for p := range all {
		if q := m.twin(classes, p); q < p {
			all[p] = all[q]
			continue
		}
		for _, q := range m.silent[p] {
			if through(p, q) {
				all[p] = append(all[p], tails[q]...)
			}
		}
		all[p] = rising(all[p])
	}
	return all
}

// twin tells the least state that is on a cycle of silent steps with one, and together with it; it offers the same.
func (m *model) twin(classes []int, p int) int {
	least := p
	for _, q := range m.silent[p] {
		// Who leads to less than it does does not lead back to it.
		if q < least && classes[q] == classes[p] && len(m.silent[q]) == len(m.silent[p]) {
			least = q
		}
	}
	return least
}

// rising tells a list in order, each thing once.
func rising(list []int) []int {
	slices.Sort(list)
	return slices.Compact(list)
}

// strongOffers is the manner of strong bisimulations by a great system's classes.
func strongOffers(m *model, classes []int) manner {
	alone := &model{steps: m.steps, silent: make([][]int, len(classes))}
	for state := range alone.silent {
		alone.silent[state] = []int{state}
	}
	return metBy(alone.offers(classes, func(p, q int) bool { return p == q }, false), classes, false)
}

// branchingOffers is that of branching ones.
func branchingOffers(m *model, classes []int) manner {
	return metBy(m.offers(classes, func(p, q int) bool { return classes[p] == classes[q] }, false), classes, true)
}

// weakOffers is that of weak ones.
func weakOffers(m *model, classes []int) manner {
	return metBy(m.offers(classes, func(int, int) bool { return true }, true), classes, true)
}

// metBy asks whether a state offers a kind of step or, if it may stay where it is, leads nowhere else.
func metBy(offers [][]int, classes []int, stays bool) manner {
	return func(_ *model, _ relation, _ int, step api.Step, q int) bool {
		_, is := slices.BinarySearch(offers[q], step.Label*len(classes)+classes[step.To])
		return is || stays && step.Label == api.Tau && classes[step.To] == classes[q]
	}
}

// isFiner tells whether states that are together by the first classes are so by the second ones.
func isFiner(a, b []int) bool {
	for p := range a {
		for q := range p {
			if a[p] == a[q] && b[p] != b[q] {
				return false
			}
		}
	}
	return true
}
