package simul_test

import (
	"slices"

	"semblance/api"
)

// oneForm tells classes in the one form: a class's number is that of the classes whose least state is less.
func oneForm(classes []int) []int {
	form := make([]int, len(classes))
	for state, class := range classes {
		for other := range slices.Index(classes, class) {
			if slices.Index(classes, classes[other]) == other {
				form[state]++
			}
		}
	}
	return form
}

// stepsOf tells the steps of each state of a system, by its label.
func stepsOf(s api.System) [][][]int {
	steps := make([][][]int, s.States)
	for state := range steps {
		steps[state] = make([][]int, s.Labels)
	}
	for _, e := range s.Edges {
		steps[e.From][e.Label] = append(steps[e.From][e.Label], e.To)
	}
	return steps
}

// meetsAll tells whether q meets each step of p, as the words have it.
func meetsAll(steps [][][]int, related [][]bool, p, q int) bool {
	for label, ends := range steps[p] {
		for _, end := range ends {
			if !slices.ContainsFunc(steps[q][label], func(to int) bool { return related[end][to] }) {
				return false
			}
		}
	}
	return true
}

// simulated tells which pairs the greatest simulation relates, as the words have it: of all pairs those are left out, until none is, whose steps are not met.
func simulated(s api.System) [][]bool {
	steps, related := stepsOf(s), make([][]bool, s.States)
	for p := range related {
		related[p] = slices.Repeat([]bool{true}, s.States)
	}
	for changed := true; changed; {
		changed = false
		for p, row := range related {
			for q := range row {
				if row[q] && !meetsAll(steps, related, p, q) {
					row[q] = false
					changed = true
				}
			}
		}
	}
	return related
}

// rowsOf tells, of each state, the states that it is related to, rising.
func rowsOf(related [][]bool) [][]int {
	rows := make([][]int, len(related))
	for p, row := range related {
		for q, is := range row {
			if is {
				rows[p] = append(rows[p], q)
			}
		}
	}
	return rows
}

// relationOf tells the pairs of such rows.
func relationOf(rows [][]int) [][]bool {
	related := make([][]bool, len(rows))
	for p, row := range rows {
		related[p] = make([]bool, len(rows))
		for _, q := range row {
			related[p][q] = true
		}
	}
	return related
}

// mutual tells the classes of states that are related to one another, in the one form.
func mutual(related [][]bool) []int {
	classes := make([]int, len(related))
	for p := range related {
		for q := range related {
			if related[p][q] && related[q][p] {
				classes[p] = q
				break
			}
		}
	}
	return oneForm(classes)
}

// isSimulation tells whether a relation is one.
func isSimulation(s api.System, related [][]bool) bool {
	steps := stepsOf(s)
	for p, row := range related {
		for q, is := range row {
			if is && !meetsAll(steps, related, p, q) {
				return false
			}
		}
	}
	return true
}

// isOrder tells whether a relation is reflexive and transitive.
func isOrder(related [][]bool) bool {
	for p, row := range related {
		if !row[p] {
			return false
		}
		for q, is := range row {
			for r := range related {
				if is && related[q][r] && !row[r] {
					return false
				}
			}
		}
	}
	return true
}
