package quotient_test

import (
	"slices"

	"semblance/api"
	"semblance/system"
)

// oneForm tells classes in the one form: a class's number is that of the classes whose least state is less.
func oneForm(classes []int) []int {
	form := make([]int, len(classes))
	for state, class := range classes {
		for other := range slices.Index(classes, class) {
			if slices.Index(classes, classes[other]) == other {
				form[state]++
			}
		}
	}
	return form
}

// reachable tells of each state whether it is: over all edges again and again, until no state is new.
func reachable(s api.System) []bool {
	is := make([]bool, s.States)
	if s.States == 0 {
		return is
	}
	is[s.Start] = true
	for changed := true; changed; {
		changed = false
		for _, e := range s.Edges {
			if is[e.From] && !is[e.To] {
				is[e.To], changed = true, true
			}
		}
	}
	return is
}

// firsts tells of each class that has a reachable state the least of these, rising.
func firsts(s api.System, classes []int) []int {
	is := reachable(s)
	var least []int
	for p := range s.States {
		if is[p] && !slices.ContainsFunc(least, func(q int) bool { return classes[q] == classes[p] }) {
			least = append(least, p)
		}
	}
	return least
}

// quotientBy tells what Of is to tell: states by the least ones of their classes, edges as system.Normal puts them.
func quotientBy(s api.System, classes []int, inert bool) (api.System, []int) {
	is, least := reachable(s), firsts(s, classes)
	to := make([]int, s.States)
	for p := range to {
		to[p] = slices.IndexFunc(least, func(q int) bool { return classes[q] == classes[p] })
	}
	q := api.System{States: len(least), Labels: s.Labels}
	if s.States > 0 {
		q.Start = to[s.Start]
	}
	for _, e := range s.Edges {
		isInert := e.Label == api.Tau && classes[e.From] == classes[e.To]
		if is[e.From] && !(inert && isInert) {
			q.Edges = append(q.Edges, api.Edge{From: to[e.From], Label: e.Label, To: to[e.To]})
		}
	}
	normal, err := system.Normal(q)
	if err != nil {
		panic(err)
	}
	return normal, to
}

// related is a relation of a system's states, and what is asked of it.
type related struct {
	steps  [][]api.Step // of each state
	silent [][]int      // of each state those that silent steps lead to, none or more
	are    [][]bool
}

// all relates all states.
func all(s api.System) *related {
	r := &related{steps: make([][]api.Step, s.States), silent: make([][]int, s.States), are: make([][]bool, s.States)}
	for _, e := range s.Edges {
		r.steps[e.From] = append(r.steps[e.From], api.Step{Label: e.Label, To: e.To})
	}
	for p := range r.are {
		r.are[p] = slices.Repeat([]bool{true}, s.States)
		r.silent[p] = []int{p}
		for i := 0; i < len(r.silent[p]); i++ {
			for _, step := range r.steps[r.silent[p][i]] {
				if step.Label == api.Tau && !slices.Contains(r.silent[p], step.To) {
					r.silent[p] = append(r.silent[p], step.To)
				}
			}
		}
	}
	return r
}

// has tells whether a state has a step with the label of another one to a state that is related to its end.
func (r *related) has(q int, step api.Step) bool {
	return slices.ContainsFunc(r.steps[q], func(other api.Step) bool {
		return other.Label == step.Label && r.are[step.To][other.To]
	})
}

// strongly tells whether q meets a step of p in a strong bisimulation.
func (r *related) strongly(_ int, step api.Step, q int) bool { return r.has(q, step) }

// branchingly tells whether q meets a step of p in a branching bisimulation.
func (r *related) branchingly(p int, step api.Step, q int) bool {
	if step.Label == api.Tau && r.are[step.To][q] {
		return true
	}
	return slices.ContainsFunc(r.silent[q], func(q1 int) bool { return r.are[p][q1] && r.has(q1, step) })
}

// meets is a way in which a state meets the steps of another one.
type meets func(r *related, p int, step api.Step, q int) bool

// bisimilar tells which states are so, as the words have it: of all pairs those are left out, until none is, whose steps are not met.
func bisimilar(s api.System, met meets) [][]bool {
	r := all(s)
	meetsAll := func(p, q int) bool {
		return !slices.ContainsFunc(r.steps[p], func(step api.Step) bool { return !met(r, p, step, q) })
	}
	for changed := true; changed; {
		changed = false
		for p := range r.are {
			for q := range p {
				if r.are[p][q] && !(meetsAll(p, q) && meetsAll(q, p)) {
					r.are[p][q], r.are[q][p] = false, false
					changed = true
				}
			}
		}
	}
	return r.are
}

// classesBy tells the classes of states that are bisimilar, in the one form.
func classesBy(are [][]bool) []int {
	classes := make([]int, len(are))
	for p := range are {
		classes[p] = slices.Index(are[p], true)
	}
	return oneForm(classes)
}

// unionBy tells what Union is to tell.
func unionBy(s, t api.System) api.System {
	u := api.System{States: s.States + t.States, Labels: slices.Max([]int{s.Labels, t.Labels}), Start: s.Start}
	if s.States == 0 {
		u.Start = t.Start
	}
	for i := range len(s.Edges) + len(t.Edges) {
		if i < len(s.Edges) {
			u.Edges = append(u.Edges, s.Edges[i])
			continue
		}
		e := t.Edges[i-len(s.Edges)]
		u.Edges = append(u.Edges, api.Edge{From: e.From + s.States, Label: e.Label, To: e.To + s.States})
	}
	return u
}

// partings tells all classes of so many states in the one form.
func partings(states int) [][]int {
	all := [][]int{nil}
	for range states {
		var longer [][]int
		for _, classes := range all {
			for class := range slices.Max(append([]int{-1}, classes...)) + 2 {
				longer = append(longer, append(slices.Clone(classes), class))
			}
		}
		all = longer
	}
	return all
}
