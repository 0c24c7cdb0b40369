package formula_test

import (
	"fmt"
	"slices"
	"strings"

	"semblance/api"
	"semblance/lexis"
)

const (
	least    = -1 << 63
	greatest = 1<<63 - 1
)

// tree is a formula as a tree: what the lists and texts of the package are held against.
type tree struct {
	op, label int
	parts     []tree
}

func tt() tree                   { return tree{op: api.FormTrue} }
func not(t tree) tree            { return tree{op: api.FormNot, parts: []tree{t}} }
func and(t, u tree) tree         { return tree{op: api.FormAnd, parts: []tree{t, u}} }
func may(label int, t tree) tree { return tree{op: api.FormMay, label: label, parts: []tree{t}} }
func (t tree) isAnd() bool       { return t.op == api.FormAnd }

// list tells the nodes of a tree in postfix order.
func (t tree) list() []api.Node {
	var l []api.Node
	for _, part := range t.parts {
		l = append(l, part.list()...)
	}
	return append(l, api.Node{Op: t.op, Label: t.label})
}

// depth tells how many mays stand within one another.
func (t tree) depth() int {
	most := 0
	for _, part := range t.parts {
		most = max(most, part.depth())
	}
	if t.op == api.FormMay {
		most++
	}
	return most
}

// text tells the text that is to be printed.
func (t tree) text() string {
	bracketed := func(part tree) string {
		if part.isAnd() {
			return "(" + part.text() + ")"
		}
		return part.text()
	}
	switch t.op {
	case api.FormNot:
		return "~" + bracketed(t.parts[0])
	case api.FormAnd:
		return t.parts[0].text() + " & " + bracketed(t.parts[1])
	case api.FormMay:
		return fmt.Sprintf("<%d>%s", t.label, bracketed(t.parts[0]))
	}
	return "tt"
}

// nesting tells how many brackets, nots and mays stand within one another in the printed text.
func (t tree) nesting() int {
	most := 0
	for i, part := range t.parts {
		own := part.nesting()
		if part.isAnd() && (!t.isAnd() || i == 1) {
			own++
		}
		if !t.isAnd() {
			own++
		}
		most = max(most, own)
	}
	return most
}

// holds tells whether a formula does at a state, as the words have it.
func (t tree) holds(s api.System, state int) bool {
	switch t.op {
	case api.FormNot:
		return !t.parts[0].holds(s, state)
	case api.FormAnd:
		return t.parts[0].holds(s, state) && t.parts[1].holds(s, state)
	case api.FormMay:
		return slices.ContainsFunc(s.Edges, func(e api.Edge) bool {
			return e.From == state && e.Label == t.label && t.parts[0].holds(s, e.To)
		})
	}
	return true
}

// rowOf tells at which states a formula holds.
func (t tree) rowOf(s api.System) []bool {
	row := make([]bool, s.States)
	for state := range row {
		row[state] = t.holds(s, state)
	}
	return row
}

// treeOf tells the tree of a list, and whether it is a formula: from its back, part by part.
func treeOf(l []api.Node) (tree, bool) {
	if len(l) < 1 || len(l) > 5000 {
		return tree{}, false
	}
	t, rest, ok := treeAtEnd(l)
	if !ok || len(rest) > 0 {
		return tree{}, false
	}
	return t, true
}

// treeAtEnd tells the tree that the back of a list is, and what stands ahead of it.
func treeAtEnd(l []api.Node) (tree, []api.Node, bool) {
	if len(l) == 0 {
		return tree{}, nil, false
	}
	node, rest := l[len(l)-1], l[:len(l)-1]
	many := map[int]int{api.FormTrue: 1, api.FormNot: 2, api.FormAnd: 3, api.FormMay: 2}[node.Op] - 1
	if many < 0 || node.Label < 0 || node.Label > 200 || node.Op != api.FormMay && node.Label != 0 {
		return tree{}, nil, false
	}
	t := tree{op: node.Op, label: node.Label}
	for range many {
		part, ahead, ok := treeAtEnd(rest)
		if !ok {
			return tree{}, nil, false
		}
		t.parts = append([]tree{part}, t.parts...)
		rest = ahead
	}
	return t, rest, true
}

// small tells all trees of so many nodes whose mays have one of some labels.
func small(size int, labels ...int) []tree {
	bySize := [][]tree{nil, {tt()}}
	for n := 2; n <= size; n++ {
		var all []tree
		for _, t := range bySize[n-1] {
			all = append(all, not(t))
			for _, label := range labels {
				all = append(all, may(label, t))
			}
		}
		for first := 1; first < n-1; first++ {
			for _, t := range bySize[first] {
				for _, u := range bySize[n-1-first] {
					all = append(all, and(t, u))
				}
			}
		}
		bySize = append(bySize, all)
	}
	return bySize[size]
}

// upToSize tells all trees of at most so many nodes.
func upToSize(size int, labels ...int) []tree {
	var all []tree
	for n := 1; n <= size; n++ {
		all = append(all, small(n, labels...)...)
	}
	return all
}

// numbers tells one number after the other, the same ones each time.
type numbers struct{ at uint64 }

// below tells the next number of 0 to n - 1.
func (x *numbers) below(n int) int {
	x.at = x.at*6364136223846793005 + 1442695040888963407
	return int(x.at >> 33 % uint64(n))
}

// tree tells the next tree of so many nodes, with labels below a number.
func (x *numbers) tree(size, labels int) tree {
	switch {
	case size < 2:
		return tt()
	case size > 2 && x.below(2) == 0:
		first := 1 + x.below(size-2)
		return and(x.tree(first, labels), x.tree(size-1-first, labels))
	case x.below(2) == 0:
		return not(x.tree(size-1, labels))
	}
	return may(x.below(labels), x.tree(size-1, labels))
}

// deep tells the next tree whose parts stand within about so many others.
func (x *numbers) deep(many int) tree {
	t := tt()
	for range many {
		switch x.below(4) {
		case 0:
			t = not(t)
		case 1:
			t = may(x.below(api.MaxLabels), t)
		case 2:
			t = and(t, x.tree(1+x.below(3), 9))
		case 3:
			t = and(x.tree(1+x.below(3), 9), t)
		}
	}
	return t
}

// spelt tells a text of a tree with more brackets and blanks than it needs.
func (x *numbers) spelt(t tree) string {
	blank := func() string { return []string{"", "", " ", "\t", " \r "}[x.below(5)] }
	bracketed := func(part tree, needs bool) string {
		text := x.spelt(part)
		for needs || x.below(6) == 0 {
			text, needs = "("+blank()+text+blank()+")", false
		}
		return text
	}
	switch t.op {
	case api.FormNot:
		return "~" + blank() + bracketed(t.parts[0], t.parts[0].isAnd())
	case api.FormAnd:
		return bracketed(t.parts[0], false) + blank() + "&" + blank() + bracketed(t.parts[1], t.parts[1].isAnd())
	case api.FormMay:
		return "<" + blank() + fmt.Sprint(t.label) + blank() + ">" + blank() + bracketed(t.parts[0], t.parts[0].isAnd())
	}
	return "tt"
}

// system tells the next system of so many states: at most so many labels and edges, some of which stand twice.
func (x *numbers) system(states, labels, many int) api.System {
	s := api.System{States: states, Labels: 1 + x.below(labels), Start: x.below(states)}
	for range x.below(many + 1) {
		s.Edges = append(s.Edges, api.Edge{From: x.below(states), Label: x.below(s.Labels), To: x.below(states)})
	}
	return s
}

// copied tells a system with several states for each of s, all of them strongly bisimilar to it: each has all steps, to some copy each.
func (x *numbers) copied(s api.System, states int) api.System {
	copies := make([][]int, s.States)
	for state := range states {
		old := state
		if state >= s.States {
			old = x.below(s.States)
		}
		copies[old] = append(copies[old], state)
	}
	big := api.System{States: states, Labels: s.Labels, Start: copies[s.Start][0]}
	for _, e := range s.Edges {
		for _, from := range copies[e.From] {
			to := copies[e.To]
			big.Edges = append(big.Edges, api.Edge{From: from, Label: e.Label, To: to[x.below(len(to))]})
		}
	}
	return big
}

// edges makes a list of edges of numbers, three an edge.
func edges(numbers ...int) []api.Edge {
	var list []api.Edge
	for three := range slices.Chunk(numbers, 3) {
		list = append(list, api.Edge{From: three[0], Label: three[1], To: three[2]})
	}
	return list
}

// given is the system of the document's examples.
func given() api.System {
	return api.System{States: 4, Labels: 2, Edges: edges(0, 1, 1, 1, 1, 2, 3, 1, 2)}
}

// outcome is what reading a text is to tell: a formula, or an error at a word.
type outcome struct {
	list      []api.Node
	err       error
	line, col int
}

// taker reads words one after the other, without going down the grammar: what is open stands on a stack.
type taker struct {
	open    []api.Token // the brackets, nots and mays
	labels  []int       // of what is open
	ands    []bool      // of the line and of each bracket: is an and waiting for its second part?
	made    int
	list    []api.Node
	expects string // "part", "number", ">", "sign" or "nothing"
}

// read tells what Parse is to tell of a text that lexis takes.
func read(text string) outcome {
	words, err := lexis.Scan(text)
	if err != nil {
		panic(err)
	}
	if len(words) == 0 {
		return outcome{err: api.ErrSyntax, line: 1, col: 1}
	}
	k := &taker{ands: []bool{false}, expects: "part"}
	for _, word := range words {
		if refusal := k.next(word); refusal != nil {
			return outcome{err: refusal, line: word.Line, col: word.Col}
		}
	}
	return outcome{list: k.list}
}

// role tells what a word is to a taker: it stands in the place of the text.
func role(word api.Token) string {
	switch word.Kind {
	case api.TokenNumber:
		return "number"
	case api.TokenEnd:
		return "end"
	}
	return word.Text
}

// allows tells whether the grammar has a word there.
func (k *taker) allows(word api.Token) bool {
	switch what := role(word); k.expects {
	case "part":
		return slices.Contains([]string{"tt", "~", "<", "("}, what)
	case "sign":
		isOpen := slices.ContainsFunc(k.open, func(w api.Token) bool { return w.Text == "(" })
		return what == "&" || what == ")" && isOpen || what == "end" && !isOpen
	default:
		return what == k.expects
	}
}

// next takes a word, or tells the error against it.
func (k *taker) next(word api.Token) error {
	what := role(word)
	if !k.allows(word) {
		return api.ErrSyntax
	}
	if strings.Contains("~<(", what) && len(k.open) >= 60 {
		return api.ErrDeep
	}
	label := 0
	if what == "number" {
		if fmt.Sscan(word.Text, &label); label >= 201 {
			return api.ErrIndex
		}
	}
	if slices.Contains([]string{"tt", "~", "&", "<"}, what) {
		if k.made++; k.made > 5000 {
			return api.ErrFormula
		}
	}
	k.take(what, word, label)
	return nil
}

// take takes a word that may stand there.
func (k *taker) take(what string, word api.Token, label int) {
	last := len(k.ands) - 1
	switch what {
	case "~", "<", "(":
		k.open, k.labels = append(k.open, word), append(k.labels, 0)
		k.expects = "part"
		if what == "<" {
			k.expects = "number"
		}
		if what == "(" {
			k.ands = append(k.ands, false)
		}
	case "number":
		k.labels[len(k.labels)-1] = label
		k.expects = ">"
	case ">":
		k.expects = "part"
	case "&":
		k.ands[last] = true
		k.expects = "part"
	case "tt":
		k.list = append(k.list, api.Node{Op: api.FormTrue})
		k.ended()
	case ")":
		k.ands = k.ands[:last]
		k.open, k.labels = k.open[:len(k.open)-1], k.labels[:len(k.labels)-1]
		k.ended()
	case "end":
		k.expects = "nothing"
	}
}

// ended closes what comes to its end with a part: the nots and mays that it is the part of, and an and.
func (k *taker) ended() {
	for i := len(k.open) - 1; i >= 0 && k.open[i].Text != "("; i-- {
		node := api.Node{Op: api.FormNot}
		if k.open[i].Text == "<" {
			node = api.Node{Op: api.FormMay, Label: k.labels[i]}
		}
		k.list = append(k.list, node)
		k.open, k.labels = k.open[:i], k.labels[:i]
	}
	if last := len(k.ands) - 1; k.ands[last] {
		k.list = append(k.list, api.Node{Op: api.FormAnd})
		k.ands[last] = false
	}
	k.expects = "sign"
}
