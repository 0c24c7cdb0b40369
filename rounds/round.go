package rounds

import (
	"iter"
	"slices"
	"strconv"

	"semblance/api"
	"semblance/system"
)

// roundsOf tells the numbers and classes of a system's rounds, up to the first one behind which nothing changes.
// The classes of each round are a list of its own, which may be handed out.
func roundsOf(s api.System) (iter.Seq2[int, []int], error) {
	graph, err := system.New(s)
	if err != nil {
		return nil, err
	}
	// Each round asks for all steps: the graph would copy them each time.
	steps := make([][]api.Step, s.States)
	for state := range steps {
		steps[state] = graph.Out(state)
	}
	return func(yield func(int, []int) bool) {
		classes := make([]int, s.States)
		for round := 0; yield(round, classes); round++ {
			next := parted(steps, classes)
			if slices.Equal(next, classes) {
				return
			}
			classes = next
		}
	}, nil
}

// parted tells the classes of the round behind one: states with the same signature are together.
func parted(steps [][]api.Step, classes []int) []int {
	numbers := map[string]int{}
	next := make([]int, len(classes))
	for state, class := range classes {
		text := signature(class, steps[state], classes)
		number, there := numbers[text]
		if !there {
			// States come in their order, so that a class is numbered by its least one.
			number = len(numbers)
			numbers[text] = number
		}
		next[state] = number
	}
	return next
}

// signature tells a state's class, and with which labels its steps lead to which classes, as a text.
func signature(class int, steps []api.Step, classes []int) string {
	ends := make([]int, len(steps))
	for i, step := range steps {
		// The number of a class is less than that of all states, so that each label and class have a number of their own.
		ends[i] = step.Label*len(classes) + classes[step.To]
	}
	// Neither the order of steps nor how many of them lead to a class is to be seen.
	slices.Sort(ends)
	text := strconv.AppendInt(nil, int64(class), 10)
	for _, end := range slices.Compact(ends) {
		text = append(text, ' ')
		text = strconv.AppendInt(text, int64(end), 10)
	}
	return string(text)
}
