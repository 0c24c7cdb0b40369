package branching

import "math/bits"

// wordBits is how many bits a word of a row has.
const wordBits = 64

// row is a set of small numbers, a bit for each: the signatures of a great system have many ends in common, and are joined once for each inert edge.
type row []uint64

// rowsOf makes so many empty rows, of numbers below a bound.
func rowsOf(many, bound int) []row {
	width := (bound + wordBits - 1) / wordBits
	words := make([]uint64, many*width)
	rows := make([]row, many)
	for i := range rows {
		rows[i] = words[i*width : (i+1)*width : (i+1)*width]
	}
	return rows
}

// add puts a number into the set.
func (r row) add(n int) { r[n/wordBits] |= 1 << (n % wordBits) }

// has tells whether a number is in the set.
func (r row) has(n int) bool { return r[n/wordBits]>>(n%wordBits)&1 == 1 }

// join puts all numbers of another set, of the same bound, into this one.
func (r row) join(other row) {
	for i, word := range other {
		r[i] |= word
	}
}

// size tells how many numbers are in the set.
func (r row) size() int {
	size := 0
	for _, word := range r {
		size += bits.OnesCount64(word)
	}
	return size
}

// appendTo writes the set behind a text, as those words that are not empty, each with its place: most sets have few numbers.
func (r row) appendTo(text []byte) []byte {
	for place, word := range r {
		if word != 0 {
			text = appendWord(text, uint64(place))
			text = appendWord(text, word)
		}
	}
	return text
}

// appendWord writes a word behind a text, byte by byte.
func appendWord(text []byte, word uint64) []byte {
	for shift := 0; shift < wordBits; shift += 8 {
		text = append(text, byte(word>>shift))
	}
	return text
}
