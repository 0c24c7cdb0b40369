package branching_test

import (
	"cmp"
	"slices"

	"semblance/api"
)

// oneForm tells classes in the one form: a class's number is that of the classes whose least state is less.
func oneForm(classes []int) []int {
	form := make([]int, len(classes))
	for state, class := range classes {
		for other := range slices.Index(classes, class) {
			if slices.Index(classes, classes[other]) == other {
				form[state]++
			}
		}
	}
	return form
}

// leadsBy tells of each state those that edges of a kind (none or more) lead to from it, rising.
func leadsBy(s api.System, kind func(api.Edge) bool) [][]int {
	next := make([][]int, s.States)
	for _, e := range s.Edges {
		if kind(e) {
			next[e.From] = append(next[e.From], e.To)
		}
	}
	all := make([][]int, s.States)
	for p := range all {
		there := make([]bool, s.States)
		there[p] = true
		all[p] = []int{p}
		for i := 0; i < len(all[p]); i++ {
			for _, q := range next[all[p][i]] {
				if !there[q] {
					there[q] = true
					all[p] = append(all[p], q)
				}
			}
		}
		slices.Sort(all[p])
	}
	return all
}

// isSilent tells whether an edge is a silent one.
func isSilent(e api.Edge) bool { return e.Label == api.Tau }

// inertBy tells which edges are inert by classes.
func inertBy(classes []int) func(api.Edge) bool {
	return func(e api.Edge) bool { return isSilent(e) && classes[e.From] == classes[e.To] }
}

// related is a relation of a system's states, and what is asked of it.
type related struct {
	steps [][]api.Step // of each state
	leads [][]int      // of each state those that silent steps lead to
	are   [][]bool
}

// all relates all states.
func all(s api.System) *related {
	r := &related{steps: make([][]api.Step, s.States), leads: leadsBy(s, isSilent), are: make([][]bool, s.States)}
	for p := range r.are {
		r.are[p] = slices.Repeat([]bool{true}, s.States)
	}
	for _, e := range s.Edges {
		r.steps[e.From] = append(r.steps[e.From], api.Step{Label: e.Label, To: e.To})
	}
	return r
}

// meets tells whether q meets a step of p, as the words have it.
func (r *related) meets(p int, step api.Step, q int) bool {
	if step.Label == api.Tau && r.are[step.To][q] {
		return true
	}
	return slices.ContainsFunc(r.leads[q], func(q1 int) bool {
		return r.are[p][q1] && slices.ContainsFunc(r.steps[q1], func(other api.Step) bool {
			return other.Label == step.Label && r.are[step.To][other.To]
		})
	})
}

// meetsAll tells whether q meets each step of p.
func (r *related) meetsAll(p, q int) bool {
	for _, step := range r.steps[p] {
		if !r.meets(p, step, q) {
			return false
		}
	}
	return true
}

// bisimilar tells the classes of branching bisimilarity as the words have it: of all pairs those are left out, until none is, whose steps are not met.
func bisimilar(s api.System) []int {
	r := all(s)
	for changed := true; changed; {
		changed = false
		for p := range r.are {
			for q := range r.are {
				if r.are[p][q] && !(r.meetsAll(p, q) && r.meetsAll(q, p)) {
					r.are[p][q], r.are[q][p] = false, false
					changed = true
				}
			}
		}
	}
	classes := make([]int, s.States)
	for p := range r.are {
		classes[p] = slices.Index(r.are[p], true)
	}
	return oneForm(classes)
}

// isBisimulation tells whether to be in one class is a branching bisimulation.
func isBisimulation(s api.System, classes []int) bool {
	r := all(s)
	for p := range r.are {
		for q := range r.are {
			r.are[p][q] = classes[p] == classes[q]
		}
	}
	for p := range r.are {
		for q := range r.are {
			if r.are[p][q] && !r.meetsAll(p, q) {
				return false
			}
		}
	}
	return true
}

// bySplitters tells the classes of branching bisimilarity of a great system: set by set of states and label by label, who can come into the set by a step with the label, behind silent steps within the class, is parted from who can't.
func bySplitters(s api.System) []int {
	classes, many := make([]int, s.States), min(1, s.States)
	for {
		before := slices.Clone(classes)
		for set := range many {
			classes = splitBy(s, classes, func(state int) bool { return before[state] == set })
		}
		if now := len(slices.Compact(slices.Sorted(slices.Values(classes)))); now > many {
			many = now
			continue
		}
		return oneForm(classes)
	}
}

// splitBy parts classes by one set, which is made of whole classes.
func splitBy(s api.System, classes []int, in func(int) bool) []int {
	into := make(map[int][]int) // of each label the states that have a step with it into the set
	for _, e := range s.Edges {
		if in(e.To) && !(isSilent(e) && in(e.From)) {
			into[e.Label] = append(into[e.Label], e.From)
		}
	}
	for label := range s.Labels {
		if len(into[label]) == 0 {
			continue
		}
		can := behindInert(s, classes, into[label])
		kinds := map[[2]int]int{}
		next := make([]int, s.States)
		for state, class := range classes {
			kind := [2]int{class, can[state]}
			if _, there := kinds[kind]; !there {
				kinds[kind] = len(kinds)
			}
			next[state] = kinds[kind]
		}
		classes = next
	}
	return classes
}

// behindInert tells of each state 1, if inert steps (none or more) lead from it to one of these, else 0.
func behindInert(s api.System, classes []int, ends []int) []int {
	inert := inertBy(classes)
	from := make([][]int, s.States)
	for _, e := range s.Edges {
		if inert(e) {
			from[e.To] = append(from[e.To], e.From)
		}
	}
	can := make([]int, s.States)
	found := slices.Clone(ends)
	for len(found) > 0 {
		state := found[len(found)-1]
		found = found[:len(found)-1]
		if can[state] == 0 {
			can[state] = 1
			found = append(found, from[state]...)
		}
	}
	return can
}

// bottomsBy tells what Bottoms is to tell.
func bottomsBy(s api.System, classes []int) []bool {
	inert := inertBy(classes)
	bottoms := make([]bool, s.States)
	for state := range bottoms {
		bottoms[state] = !slices.ContainsFunc(s.Edges, func(e api.Edge) bool { return e.From == state && inert(e) })
	}
	return bottoms
}

// stepsBy tells what Steps is to tell: of each state on its own, all that it comes to.
func stepsBy(s api.System, classes []int) [][]api.Step {
	inert := inertBy(classes)
	ends := make(map[int][]api.Step) // of each state's own steps
	for _, e := range s.Edges {
		if !inert(e) {
			ends[e.From] = append(ends[e.From], api.Step{Label: e.Label, To: classes[e.To]})
		}
	}
	all := make([][]api.Step, s.States)
	for p, leads := range leadsBy(s, inert) {
		for _, q := range leads {
			all[p] = append(all[p], ends[q]...)
		}
		slices.SortFunc(all[p], func(a, b api.Step) int { return cmp.Or(a.Label-b.Label, a.To-b.To) })
		all[p] = slices.Compact(all[p])
	}
	return all
}

// partings tells all classes of so many states in the one form.
func partings(states int) [][]int {
	all := [][]int{nil}
	for range states {
		var longer [][]int
		for _, classes := range all {
			for class := range slices.Max(append([]int{-1}, classes...)) + 2 {
				longer = append(longer, append(slices.Clone(classes), class))
			}
		}
		all = longer
	}
	return all
}

// isFiner tells whether states that are together by the first classes are so by the second ones.
func isFiner(a, b []int) bool {
	for p := range a {
		for q := range p {
			if a[p] == a[q] && b[p] != b[q] {
				return false
			}
		}
	}
	return true
}
