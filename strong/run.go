package strong

import (
	"cmp"
	"slices"

	"semblance/api"
	"semblance/refine"
	"semblance/system"
)

// run is a refinement under way. Behind each taking all states of a block have a step with a label into a heap, or none has.
// The states and blocks for which it asks the partition are there, but where it looks for a block: refine has no fault to tell then.
type run struct {
	graph     *system.Graph
	partition *refine.Partition
	heaps     []heap
	owners    []int        // of each block its heap
	sizes     []int        // of each block how many states it has
	counts    map[into]int // how many steps
	waiting   []int        // heaps that came to have two blocks; of some one may be left
}

// heap has blocks that were one when they were taken, or left.
type heap struct {
	blocks []int
	states int
}

// into is what steps are counted by: their state, their label, and the heap that they lead into.
type into struct{ state, label, heap int }

// ground is the number of what stands for a heap ahead of the first taking, which leaves nothing of it.
const ground = 0

// begin makes a run without a taking.
func begin(s api.System) (*run, error) {
	graph, err := system.New(s)
	if err != nil {
		return nil, err
	}
	partition, err := refine.New(s.States)
	if err != nil {
		return nil, err
	}
	r := &run{graph: graph, partition: partition, counts: map[into]int{}, heaps: make([]heap, 1)}
	if s.States > 0 {
		r.heaps[ground] = heap{blocks: []int{0}, states: s.States}
		r.owners, r.sizes = []int{ground}, []int{s.States}
	}
	for _, edge := range graph.Edges() {
		r.counts[into{edge.From, edge.Label, ground}]++
	}
	return r, nil
}

// members tells a block's states.
func (r *run) members(block int) []int {
	members, _ := r.partition.Members(block)
	return members
}

// find tells the block that has just these states, if there is one.
func (r *run) find(states []int) (int, bool) {
	if len(states) == 0 {
		return 0, false
	}
	block, err := r.partition.Block(states[0])
	if err != nil || !slices.Equal(states, r.members(block)) {
		return 0, false
	}
	return block, true
}

// mayTake tells whether a block may be the next taking: what has at most half of a heap is not the only block of it.
func (r *run) mayTake(block int) bool {
	owner := r.owners[block]
	return owner == ground || 2*r.sizes[block] <= r.heaps[owner].states
}

// isDone tells whether each block is a heap of its own.
func (r *run) isDone() bool { return r.partition.Blocks() == len(r.heaps)-1 }

// next tells a block that may be taken, if there is one.
func (r *run) next() (int, bool) {
	for len(r.waiting) > 0 {
		if blocks := r.heaps[r.waiting[0]].blocks; len(blocks) > 1 {
			return r.smaller(blocks[0], blocks[1]), true
		}
		r.waiting = r.waiting[1:]
	}
	return 0, false
}

// smaller tells which of two blocks has fewer states; of two that are as great the first one.
func (r *run) smaller(first, second int) int {
	switch cmp.Compare(r.sizes[first], r.sizes[second]) {
	case -1:
		fallthrough
	case 0:
		return first
	}
	return second
}

// take parts a block from its heap, and all blocks by their steps into it and into the rest of the heap.
func (r *run) take(block int) {
	sources := r.sources(block)
	rest, own := r.lift(block)
	for label, states := range sources {
		for _, state := range states {
			r.counts[into{state, label, rest}]--
			r.counts[into{state, label, own}]++
		}
		r.split(states)
		// A block without a step into the taking has steps into the rest just as it had into the heap: those with one are left to be parted.
		r.split(slices.DeleteFunc(states, func(state int) bool {
			return r.counts[into{state, label, rest}] > 0
		}))
	}
}

// sources tells of each label the states that have a step with it into a block, once for each such step.
func (r *run) sources(block int) [][]int {
	sources := make([][]int, r.graph.Labels())
	for _, state := range r.members(block) {
		for _, step := range r.graph.In(state) {
			sources[step.Label] = append(sources[step.Label], step.To)
		}
	}
	return sources
}

// lift makes a block a heap of its own, and tells the heap that it leaves, and the new one.
func (r *run) lift(block int) (rest, own int) {
	rest, own = r.owners[block], len(r.heaps)
	left := &r.heaps[rest]
	left.blocks = slices.DeleteFunc(left.blocks, func(b int) bool { return b == block })
	left.states -= r.sizes[block]
	r.heaps = append(r.heaps, heap{blocks: []int{block}, states: r.sizes[block]})
	r.owners[block] = own
	return rest, own
}

// split parts each block into those of its states that are listed, and the others.
func (r *run) split(states []int) {
	for _, state := range states {
		r.partition.Mark(state)
	}
	// Once split, neither part has a mark: the states that come to them later split nothing.
	for _, state := range states {
		block, _ := r.partition.Block(state)
		if fresh, is, _ := r.partition.Split(block); is {
			r.add(fresh, block)
		}
	}
}

// add notes a new block, which was part of an old one.
func (r *run) add(fresh, old int) {
	size, owner := len(r.members(fresh)), r.owners[old]
	r.sizes[old] -= size
	r.sizes = append(r.sizes, size)
	r.owners = append(r.owners, owner)
	shared := &r.heaps[owner]
	shared.blocks = append(shared.blocks, fresh)
	if len(shared.blocks) == 2 {
		r.waiting = append(r.waiting, owner)
	}
}
