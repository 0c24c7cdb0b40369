package weak_test

import (
	"fmt"
	"slices"

	"semblance/api"
)

// oneForm tells classes in the one form: a class's number is that of the classes whose least state is less.
func oneForm(classes []int) []int {
	form := make([]int, len(classes))
	for state, class := range classes {
		for other := range slices.Index(classes, class) {
			if slices.Index(classes, classes[other]) == other {
				form[state]++
			}
		}
	}
	return form
}

// rising tells a list in order, each thing once.
func rising(list []int) []int {
	list = slices.Clone(list)
	slices.Sort(list)
	return slices.Compact(list)
}

// weakly is a system, and how its states lead to each other.
type weakly struct {
	api.System
	steps  [][]api.Step // of each state
	silent [][]int      // of each state those that silent steps lead to, none or more, rising
}

// weaklyOf goes the steps of each state, one state after the other.
func weaklyOf(s api.System) *weakly {
	w := &weakly{System: s, steps: make([][]api.Step, s.States), silent: make([][]int, s.States)}
	for _, e := range s.Edges {
		w.steps[e.From] = append(w.steps[e.From], api.Step{Label: e.Label, To: e.To})
	}
	for state := range w.silent {
		found, there := []int{state}, make([]bool, s.States)
		there[state] = true
		for i := 0; i < len(found); i++ {
			for _, step := range w.steps[found[i]] {
				if step.Label == api.Tau && !there[step.To] {
					there[step.To] = true
					found = append(found, step.To)
				}
			}
		}
		w.silent[state] = rising(found)
	}
	return w
}

// ends tells where the weak steps of a state with a label lead, rising.
func (w *weakly) ends(state, label int) []int {
	if label == api.Tau {
		return w.silent[state]
	}
	middle, there := make([]bool, w.States), make([]bool, w.States)
	var ends []int
	for _, ahead := range w.silent[state] {
		for _, step := range w.steps[ahead] {
			if step.Label != label || middle[step.To] {
				continue
			}
			middle[step.To] = true
			for _, end := range w.silent[step.To] {
				if !there[end] {
					there[end] = true
					ends = append(ends, end)
				}
			}
		}
	}
	return rising(ends)
}

// edges tells the edges that Saturate is to tell.
func (w *weakly) edges() []api.Edge {
	var list []api.Edge
	for from := range w.States {
		for label := range w.Labels {
			for _, to := range w.ends(from, label) {
				list = append(list, api.Edge{From: from, Label: label, To: to})
			}
		}
	}
	return list
}

// meetsAll tells whether q meets each step of p, as the words have it.
func (w *weakly) meetsAll(related [][]bool, p, q int) bool {
	for _, step := range w.steps[p] {
		if !slices.ContainsFunc(w.ends(q, step.Label), func(end int) bool { return related[step.To][end] }) {
			return false
		}
	}
	return true
}

// bisimilar tells the classes of weak bisimilarity as the words have it: of all pairs those are left out, until none is, whose steps are not met.
func bisimilar(s api.System) []int {
	w := weaklyOf(s)
	related := make([][]bool, s.States)
	for p := range related {
		related[p] = slices.Repeat([]bool{true}, s.States)
	}
	for changed := true; changed; {
		changed = false
		for p := range related {
			for q := range p {
				if related[p][q] && !(w.meetsAll(related, p, q) && w.meetsAll(related, q, p)) {
					related[p][q], related[q][p] = false, false
					changed = true
				}
			}
		}
	}
	classes := make([]int, s.States)
	for p := range related {
		classes[p] = slices.Index(related[p], true)
	}
	return oneForm(classes)
}

// isBisimulation tells whether to be in one class is a weak bisimulation.
func isBisimulation(s api.System, classes []int) bool {
	w := weaklyOf(s)
	related := make([][]bool, s.States)
	for p := range related {
		related[p] = make([]bool, s.States)
		for q := range related {
			related[p][q] = classes[p] == classes[q]
		}
	}
	for p := range related {
		for q := range related {
			if related[p][q] && !w.meetsAll(related, p, q) {
				return false
			}
		}
	}
	return true
}

// byRounds tells the classes of weak bisimilarity of a great system: round by round by the labels and classes that weak steps lead to, until no class is parted.
func byRounds(s api.System) []int {
	edges := weaklyOf(s).edges()
	classes, many := make([]int, s.States), 1
	for {
		ends := make([][]int, s.States)
		for _, e := range edges {
			ends[e.From] = append(ends[e.From], e.Label*s.States+classes[e.To])
		}
		kinds := map[string]int{}
		next := make([]int, s.States)
		for state, list := range ends {
			kind := fmt.Sprint(classes[state], rising(list))
			if _, there := kinds[kind]; !there {
				kinds[kind] = len(kinds)
			}
			next[state] = kinds[kind]
		}
		if len(kinds) == many {
			return next
		}
		classes, many = next, len(kinds)
	}
}

// isFiner tells whether states that are together by the first classes are so by the second ones.
func isFiner(a, b []int) bool {
	for p := range a {
		for q := range p {
			if a[p] == a[q] && b[p] != b[q] {
				return false
			}
		}
	}
	return true
}
