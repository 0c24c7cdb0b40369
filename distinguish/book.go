package distinguish

import "semblance/api"

// nothing is the number that stands for a part that a formula of that kind has not.
const nothing = 0

// entry is a formula: its last node, and the numbers of its parts.
type entry struct {
	node          api.Node
	first, second int
}

// book has formulas, each once: two of them are the same just if their numbers are, so that none must be written out to be held against another one, or to be measured.
type book struct {
	numbers map[entry]int
	entries []entry // by their numbers
	sizes   []int   // likewise: how many nodes they have
}

// newBook makes a book without a formula.
func newBook() *book {
	return &book{numbers: map[entry]int{}, entries: []entry{nothing: {}}, sizes: []int{nothing: 0}}
}

// put tells the number of a formula; ErrLimit, if it is too great.
func (b *book) put(e entry) (int, error) {
	if number, there := b.numbers[e]; there {
		return number, nil
	}
	size := b.sizes[e.first] + b.sizes[e.second] + 1
	if size > api.MaxFormula {
		return nothing, fault(api.ErrLimit)
	}
	number := len(b.entries)
	b.numbers[e] = number
	b.entries = append(b.entries, e)
	b.sizes = append(b.sizes, size)
	return number, nil
}

// everywhere tells the number of the formula tt.
func (b *book) everywhere() (int, error) {
	return b.put(entry{node: api.Node{Op: api.FormTrue}})
}

func (b *book) not(part int) (int, error) {
	return b.put(entry{node: api.Node{Op: api.FormNot}, first: part})
}

func (b *book) may(label, part int) (int, error) {
	return b.put(entry{node: api.Node{Op: api.FormMay, Label: label}, first: part})
}

// and tells the number of an and; nothing and a formula are that formula.
func (b *book) and(first, second int) (int, error) {
	if first == nothing {
		return second, nil
	}
	return b.put(entry{node: api.Node{Op: api.FormAnd}, first: first, second: second})
}

// written tells the nodes of a formula.
func (b *book) written(number int) []api.Node {
	return b.write(make([]api.Node, 0, b.sizes[number]), number)
}

// write puts the nodes of a formula behind others: those of its parts ahead of its last one.
func (b *book) write(nodes []api.Node, number int) []api.Node {
	if number == nothing {
		return nodes
	}
	e := b.entries[number]
	nodes = b.write(nodes, e.first)
	nodes = b.write(nodes, e.second)
	return append(nodes, e.node)
}
