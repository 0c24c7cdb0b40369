package weak

import (
	"semblance/bitrow"
	"semblance/system"
)

// parting parts all states into blocks.
type parting struct {
	blocks []bitrow.Row // each state is in one of them
	sets   []bitrow.Row // all blocks that there ever were, each of which has to split the others
}

// classes tells the classes of so many states in the one form: each block is split by who can come into a set with a label, and who can't, until all sets have had their turn.
func (t table) classes(states int) []int {
	all := bitrow.New(states)
	for state := range states {
		all.Add(state)
	}
	p := &parting{blocks: []bitrow.Row{all}, sets: []bitrow.Row{all}}
	// Where each state is a block of its own, no set that waits can split any more.
	for turn := 0; turn < len(p.sets) && len(p.blocks) < states; turn++ {
		for _, rows := range t {
			p.split(into(p.sets[turn], rows))
		}
	}
	return p.numbered(states)
}

// into tells the states whose rows have a state of a set.
func into(set bitrow.Row, rows []bitrow.Row) bitrow.Row {
	can := bitrow.New(len(rows))
	for state, ends := range rows {
		if ends.Meets(set) {
			can.Add(state)
		}
	}
	return can
}

// split splits each block into the states that can do something, and those that can't.
func (p *parting) split(can bitrow.Row) {
	for i, block := range p.blocks {
		if !block.Meets(can) || block.IsWithin(can) {
			continue
		}
		in, out := block.Parted(can)
		p.blocks[i] = in
		p.blocks = append(p.blocks, out)
		p.sets = append(p.sets, in, out)
	}
}

// numbered tells the classes that the blocks are.
func (p *parting) numbered(states int) []int {
	classes := make([]int, states)
	for number, block := range p.blocks {
		for state := range block.All() {
			classes[state] = number
		}
	}
	return system.Canon(classes)
}
