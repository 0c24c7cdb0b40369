package formula

import (
	"slices"

	"semblance/api"
)

// partsOf tells how many parts a node of that kind stands behind, and whether there is such a kind: an and has one more than a not, which has one more than tt.
func partsOf(op int) (int, bool) {
	many := 0
	switch op {
	case api.FormAnd:
		many++
		fallthrough
	case api.FormNot, api.FormMay:
		many++
		fallthrough
	case api.FormTrue:
		return many, true
	}
	return 0, false
}

// workedOff works a valid formula off by a stack: what a node makes of its parts takes their place.
func workedOff[T any](f []api.Node, work func(node api.Node, parts []T) T) T {
	var stack []T
	for _, node := range f {
		many, _ := partsOf(node.Op)
		first := len(stack) - many
		made := work(node, stack[first:])
		stack = append(stack[:first], made)
	}
	return stack[0]
}

// judge tells where formulas hold in a system.
type judge struct {
	states int
	edges  [][]api.Edge // of each label
}

// judgeOf makes the judge of a system.
func judgeOf(s api.System) judge {
	j := judge{states: s.States, edges: make([][]api.Edge, s.Labels)}
	for _, edge := range s.Edges {
		j.edges[edge.Label] = append(j.edges[edge.Label], edge)
	}
	return j
}

// row tells of each state whether a node's formula holds there, by the rows of its parts, whose memory it may take over.
func (j judge) row(node api.Node, parts [][]bool) []bool {
	switch node.Op {
	case api.FormAnd:
		for state, holds := range parts[1] {
			parts[0][state] = parts[0][state] && holds
		}
		return parts[0]
	case api.FormNot:
		for state, holds := range parts[0] {
			parts[0][state] = !holds
		}
		return parts[0]
	case api.FormMay:
		return j.before(node.Label, parts[0])
	}
	return slices.Repeat([]bool{true}, j.states)
}

// before tells which states have a step with a label to one of a row.
func (j judge) before(label int, row []bool) []bool {
	before := make([]bool, j.states)
	if label >= len(j.edges) {
		return before
	}
	for _, edge := range j.edges[label] {
		if row[edge.To] {
			before[edge.From] = true
		}
	}
	return before
}
