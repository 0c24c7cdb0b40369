package branching

import "semblance/bitrow"

// appendRow writes a row behind a text, as those words that are not empty, each with its place: most signatures have few of the ends.
func appendRow(text []byte, row bitrow.Row) []byte {
	for place, word := range row {
		if word != 0 {
			text = appendWord(text, uint64(place))
			text = appendWord(text, word)
		}
	}
	return text
}

// appendWord writes a word behind a text, byte by byte.
func appendWord(text []byte, word uint64) []byte {
	for shift := 0; shift < 64; shift += 8 {
		text = append(text, byte(word>>shift))
	}
	return text
}
