package tauscc

import (
	"slices"

	"semblance/api"
	"semblance/system"
)

// stage is how far the walk is with a state on its path.
type stage int

const (
	come stage = iota // the walk has come to it, and done nothing yet
	seen              // it has its number, and its silent steps are gone one by one
	left              // all of them are gone
)

// none is the number of a state that the walk has not come to, and the class of one whose cycle is not known whole.
const none = -1

// visit is a state on the walk's path, and which of its silent steps is the next one to go.
type visit struct {
	state int
	stage stage
	step  int
}

// walk goes once through all states, by silent steps.
type walk struct {
	silent  [][]int // of each state where its silent steps lead
	path    []visit // the states through which the walk came to where it is
	open    []int   // the states that the walk has come to and that have no class, by rising numbers
	count   int     // how many states the walk has come to
	numbers []int   // of each state how many the walk came to ahead of it
	lows    []int   // of each open state the least number of those open ones that it is known to lead to
	classes []int   // of each state the one at which the walk came into its cycle
}

// cyclesOf tells the classes of states that come from each other by silent steps, in the one form.
func cyclesOf(graph *system.Graph) []int {
	states := graph.States()
	w := &walk{
		silent:  make([][]int, states),
		numbers: slices.Repeat([]int{none}, states),
		lows:    make([]int, states),
		classes: slices.Repeat([]int{none}, states),
	}
	for state := range states {
		w.silent[state] = graph.By(state, api.Tau)
	}
	for state := range states {
		if w.numbers[state] == none {
			w.from(state)
		}
	}
	return system.Canon(w.classes)
}

// from walks through all states that one leads to, as far as the walk has not come to them yet.
func (w *walk) from(state int) {
	w.path = append(w.path, visit{state: state})
	for len(w.path) > 0 {
		w.goOn()
	}
}

// goOn goes on with the last state of the path, until the walk comes to another one or has left it.
func (w *walk) goOn() {
	last := len(w.path) - 1
	here := &w.path[last]
	switch here.stage {
	case come:
		w.number(here.state)
		here.stage = seen
		fallthrough
	case seen:
		if to, fresh := w.ahead(here); fresh {
			w.path = append(w.path, visit{state: to})
			return
		}
		here.stage = left
		fallthrough
	case left:
		w.close(here.state)
		w.path = w.path[:last]
	}
}

// number gives a state its number, and opens it.
func (w *walk) number(state int) {
	w.numbers[state] = w.count
	w.lows[state] = w.count
	w.count++
	w.open = append(w.open, state)
}

// ahead goes a state's steps, up to the first one that leads to a state that the walk has not come to.
func (w *walk) ahead(v *visit) (int, bool) {
	for ; v.step < len(w.silent[v.state]); v.step++ {
		to := w.silent[v.state][v.step]
		if w.numbers[to] == none {
			// The same step is gone again when the walk is back: only then it is known what that state leads to.
			return to, true
		}
		// A state with a class does not lead back here: else it were still open.
		if w.classes[to] == none {
			w.lows[v.state] = min(w.lows[v.state], w.lows[to])
		}
	}
	return 0, false
}

// close gives their class to the open states from a state on, if it leads to no open one ahead of it: they are its cycle.
func (w *walk) close(state int) {
	if w.lows[state] < w.numbers[state] {
		return
	}
	for w.classes[state] == none {
		last := len(w.open) - 1
		w.classes[w.open[last]] = state
		w.open = w.open[:last]
	}
}
