package formula

import (
	"slices"
	"strconv"
	"strings"

	"semblance/api"
)

// piece is a piece of a text: words as they stand, or else a formula that is yet to be told, perhaps in brackets if it is an and.
type piece struct {
	words     string
	bracketed bool
}

// written tells the text of a valid formula. It goes from the back to the front, as each node stands behind its parts.
func written(f []api.Node) string {
	var told []string
	todo := []piece{{}}
	last := len(f) - 1
	for len(todo) > 0 {
		next := todo[len(todo)-1]
		todo = todo[:len(todo)-1]
		if next.words != "" {
			told = append(told, next.words)
			continue
		}
		todo = append(todo, pieces(f[last], next.bracketed)...)
		last--
	}
	slices.Reverse(told)
	return strings.Join(told, "")
}

// pieces tells the pieces of a node's formula, from the front.
func pieces(node api.Node, bracketed bool) []piece {
	switch node.Op {
	case api.FormAnd:
		both := []piece{{}, {words: " & "}, {bracketed: true}}
		if bracketed {
			both = slices.Concat([]piece{{words: "("}}, both, []piece{{words: ")"}})
		}
		return both
	case api.FormNot:
		return []piece{{words: "~"}, {bracketed: true}}
	case api.FormMay:
		return []piece{{words: "<" + strconv.Itoa(node.Label) + ">"}, {bracketed: true}}
	}
	return []piece{{words: "tt"}}
}
