package distinguish

import (
	"cmp"
	"slices"

	"semblance/api"
	"semblance/rounds"
	"semblance/system"
)

// never is the rank of two states that are strongly bisimilar.
const never = -1

// pair is two states in their order: a formula is to hold at p and not at q.
type pair struct{ p, q int }

// teller tells the states of a system apart.
type teller struct {
	*book
	steps [][]api.Step // of each state, by rising label, then state
	ranks [][]int
	told  map[pair]int // the formulas of pairs, by their numbers in the book
}

// tellerOf makes the teller of a system that two states are asked of.
func tellerOf(s api.System, p, q int) (*teller, error) {
	graph, err := system.New(s)
	switch {
	case err != nil:
		return nil, fault(err)
	case min(p, q) < 0 || max(p, q) >= s.States:
		return nil, fault(api.ErrIndex)
	case s.States > api.MaxPairs:
		return nil, fault(api.ErrLong)
	}
	ranks, err := rounds.Ranks(s)
	if err != nil {
		return nil, fault(err)
	}
	t := &teller{book: newBook(), steps: make([][]api.Step, s.States), ranks: ranks, told: map[pair]int{}}
	for state := range t.steps {
		t.steps[state] = graph.Out(state)
	}
	return t, nil
}

// apart tells the number of the formula of any two states; ErrNone, if they are strongly bisimilar, ErrLimit, if it is too great.
func (t *teller) apart(p, q int) (int, error) {
	if t.ranks[p][q] == never {
		return nothing, fault(api.ErrNone)
	}
	return t.formula(pair{p, q})
}

// formula tells the number of the formula of two states that have a rank; ErrLimit, if it is too great. What has a part that is too great is so itself: nothing else is looked for then.
func (t *teller) formula(of pair) (int, error) {
	if number, there := t.told[of]; there {
		return number, nil
	}
	number, err := t.reckoned(of)
	if err != nil {
		return nothing, err
	}
	t.told[of] = number
	return number, nil
}

// reckoned tells the same, where it was not told yet. It comes to an end: either the rank is less each time, or a step of the other state tells.
func (t *teller) reckoned(of pair) (int, error) {
	step, is := t.telling(of)
	if !is {
		part, err := t.formula(pair{of.q, of.p})
		if err != nil {
			return nothing, err
		}
		return t.not(part)
	}
	part, err := t.parting(step.To, t.by(of.q, step.Label))
	if err != nil {
		return nothing, err
	}
	return t.may(step.Label, part)
}

// telling tells the first step of p that tells it from q, if there is one.
func (t *teller) telling(of pair) (api.Step, bool) {
	rank := t.ranks[of.p][of.q]
	for _, step := range t.steps[of.p] {
		ranks := t.ranks[step.To]
		met := func(other api.Step) bool { return ranks[other.To] == never || ranks[other.To] >= rank }
		if !slices.ContainsFunc(t.by(of.q, step.Label), met) {
			return step, true
		}
	}
	return api.Step{}, false
}

// parting tells the number of the formula that parts a state from all that some steps lead to: those that part it from each one, joined, the same ones once.
func (t *teller) parting(p int, steps []api.Step) (int, error) {
	if len(steps) == 0 {
		return t.everywhere()
	}
	joined := nothing
	standing := map[int]struct{}{}
	for _, step := range steps {
		part, err := t.formula(pair{p, step.To})
		if err != nil {
			return nothing, err
		}
		if _, there := standing[part]; there {
			continue
		}
		standing[part] = struct{}{}
		joined, err = t.and(joined, part)
		if err != nil {
			return nothing, err
		}
	}
	return joined, nil
}

// by tells the steps of a state with a label.
func (t *teller) by(state, label int) []api.Step {
	steps := t.steps[state]
	first, _ := slices.BinarySearchFunc(steps, label, byLabel)
	behind, _ := slices.BinarySearchFunc(steps, label+1, byLabel)
	return steps[first:behind]
}

// byLabel holds a step's label against another one.
func byLabel(step api.Step, label int) int { return cmp.Compare(step.Label, label) }
