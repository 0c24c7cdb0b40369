// Package bitrow has sets of small numbers, a bit for each: branching, weak, simul and witness keep of each state such a row of others.
package bitrow

import (
	"iter"
	"math/bits"
	"slices"
)

// wordBits is how many bits a word of a row has.
const wordBits = 64

// Row is a set of numbers below a bound. Rows that are held against each other, or put into each other, have one bound.
type Row []uint64

// wordsOf tells how many words a row has.
func wordsOf(bound int) int { return (bound + wordBits - 1) / wordBits }

// New makes a row that has no number.
func New(bound int) Row { return make(Row, wordsOf(bound)) }

// Several makes so many such rows.
func Several(many, bound int) []Row {
	width := wordsOf(bound)
	words := make(Row, many*width)
	rows := make([]Row, many)
	for i := range rows {
		rows[i] = words[i*width : (i+1)*width : (i+1)*width]
	}
	return rows
}

// Close joins to each row the rows of all numbers in it, those that come in that way too: where a row tells what one step leads to, it is to tell what one or more steps do.
func Close(rows []Row) {
	// After a number's turn all ways are known that pass through no other numbers than those that have had theirs.
	for via, behind := range rows {
		for _, row := range rows {
			if row.Has(via) {
				row.Join(behind)
			}
		}
	}
}

// Add puts a number into the set.
func (r Row) Add(n int) { r[n/wordBits] |= 1 << (n % wordBits) }

// Has tells whether a number is in the set.
func (r Row) Has(n int) bool { return r[n/wordBits]>>(n%wordBits)&1 == 1 }

// Join puts all numbers of another set into this one.
func (r Row) Join(other Row) {
	for i, word := range other {
		r[i] |= word
	}
}

// Meets tells whether the sets have a number in common.
func (r Row) Meets(other Row) bool {
	for i, word := range other {
		if r[i]&word != 0 {
			return true
		}
	}
	return false
}

// IsWithin tells whether all numbers of the set are in another one.
func (r Row) IsWithin(other Row) bool {
	for i, word := range other {
		if r[i]&^word != 0 {
			return false
		}
	}
	return true
}

// IsEmpty tells whether there is no number in the set.
func (r Row) IsEmpty() bool {
	for _, word := range r {
		if word != 0 {
			return false
		}
	}
	return true
}

// Parted tells the numbers of the set that are in another one, and those that are not, as new sets.
func (r Row) Parted(other Row) (Row, Row) {
	in, out := slices.Clone(r), slices.Clone(r)
	for i, word := range other {
		in[i] &= word
		out[i] &^= word
	}
	return in, out
}

// Size tells how many numbers are in the set.
func (r Row) Size() int {
	size := 0
	for _, word := range r {
		size += bits.OnesCount64(word)
	}
	return size
}

// All goes through the numbers of the set, rising.
func (r Row) All() iter.Seq[int] {
	return func(yield func(int) bool) {
		for i, word := range r {
			// The lowest bit that is left is taken away each time.
			for ; word != 0; word &= word - 1 {
				if !yield(i*wordBits + bits.TrailingZeros64(word)) {
					return
				}
			}
		}
	}
}
