package lexis

import "strings"

// marks are the bytes that are words alone.
const marks = "=+|.\\{}[](),/'<>~&-:;"

// What may be done at a place of a text, by its byte; endsText is that behind the last byte.
const (
	goesOn = 1 << iota
	beginsRun
	beginsName
	standsAlone
	saysNothing
	beginsRemark
	endsLine
	endsText
)

// powers tells all that may be done at a byte; 0, if it begins no word. A letter may do what a digit may, and that what _ may.
func powers(b byte) int {
	can := 0
	switch {
	case isSmall(b), isGreat(b):
		can |= beginsName
		fallthrough
	case isDigit(b):
		can |= beginsRun
		fallthrough
	case b == '_':
		can |= goesOn
	case b == ' ', b == '\t', b == '\r':
		can |= saysNothing
	case b == '#':
		can |= beginsRemark
	case b == '\n':
		can |= endsLine
	case strings.IndexByte(marks, b) >= 0:
		can |= standsAlone
	}
	return can
}

func isSmall(b byte) bool { return 'a' <= b && b <= 'z' }

func isGreat(b byte) bool { return 'A' <= b && b <= 'Z' }

func isDigit(b byte) bool { return '0' <= b && b <= '9' }
