package weak

import (
	"iter"
	"math/bits"
	"slices"
)

// wordBits is how many bits a word of a row has.
const wordBits = 64

// row is a set of states, a bit for each. Rows that are held against each other are of the same system, and so of the same length.
type row []uint64

// emptyRow makes a row, of so many states, that has none of them.
func emptyRow(states int) row { return make(row, (states+wordBits-1)/wordBits) }

// emptyRows makes such a row for each state.
func emptyRows(states int) []row {
	rows := make([]row, states)
	for state := range rows {
		rows[state] = emptyRow(states)
	}
	return rows
}

// add puts a state into the set.
func (r row) add(state int) { r[state/wordBits] |= 1 << (state % wordBits) }

// has tells whether a state is in the set.
func (r row) has(state int) bool { return r[state/wordBits]>>(state%wordBits)&1 == 1 }

// join puts all states of another set into this one.
func (r row) join(other row) {
	for i, word := range other {
		r[i] |= word
	}
}

// meets tells whether the sets have a state in common.
func (r row) meets(other row) bool {
	for i, word := range other {
		if r[i]&word != 0 {
			return true
		}
	}
	return false
}

// isWithin tells whether all states of the set are in another one.
func (r row) isWithin(other row) bool {
	for i, word := range other {
		if r[i]&^word != 0 {
			return false
		}
	}
	return true
}

// parted tells the states of the set that are in another one, and those that are not, as new sets.
func (r row) parted(other row) (row, row) {
	in, out := slices.Clone(r), slices.Clone(r)
	for i, word := range other {
		in[i] &= word
		out[i] &^= word
	}
	return in, out
}

// size tells how many states are in the set.
func (r row) size() int {
	size := 0
	for _, word := range r {
		size += bits.OnesCount64(word)
	}
	return size
}

// all goes through the states of the set, rising.
func (r row) all() iter.Seq[int] {
	return func(yield func(int) bool) {
		for i, word := range r {
			// The lowest bit that is left is taken away each time.
			for ; word != 0; word &= word - 1 {
				if !yield(i*wordBits + bits.TrailingZeros64(word)) {
					return
				}
			}
		}
	}
}
