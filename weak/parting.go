package weak

import "semblance/system"

// parting parts all states into blocks.
type parting struct {
	blocks []row // each state is in one of them
	sets   []row // all blocks that there ever were, each of which has to split the others
}

// classes tells the classes of so many states in the one form: each block is split by who can come into a set with a label, and who can't, until all sets have had their turn.
func (t table) classes(states int) []int {
	all := emptyRow(states)
	for state := range states {
		all.add(state)
	}
	p := &parting{blocks: []row{all}, sets: []row{all}}
	// Where each state is a block of its own, no set that waits can split any more.
	for turn := 0; turn < len(p.sets) && len(p.blocks) < states; turn++ {
		for _, rows := range t {
			p.split(into(p.sets[turn], rows))
		}
	}
	return p.numbered(states)
}

// into tells the states whose rows have a state of a set.
func into(set row, rows []row) row {
	can := emptyRow(len(rows))
	for state, ends := range rows {
		if ends.meets(set) {
			can.add(state)
		}
	}
	return can
}

// split splits each block into the states that can do something, and those that can't.
func (p *parting) split(can row) {
	for i, block := range p.blocks {
		if !block.meets(can) || block.isWithin(can) {
			continue
		}
		in, out := block.parted(can)
		p.blocks[i] = in
		p.blocks = append(p.blocks, out)
		p.sets = append(p.sets, in, out)
	}
}

// numbered tells the classes that the blocks are.
func (p *parting) numbered(states int) []int {
	classes := make([]int, states)
	for number, block := range p.blocks {
		for state := range block.all() {
			classes[state] = number
		}
	}
	return system.Canon(classes)
}
