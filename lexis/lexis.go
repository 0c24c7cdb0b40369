// Package lexis cuts a text into words.
package lexis

import (
	"strings"

	"semblance/api"
)

// layer names this package in its faults.
const layer = "lexis"

// Scan tells a text's words.
func Scan(text string) ([]api.Token, error) {
	if len(text) > api.MaxText {
		return nil, &api.Fault{Layer: layer, Err: api.ErrLong}
	}
	s := scanner{text: text, line: 1}
	var refusal error
scanning:
	for refusal == nil {
		switch can := s.powersHere(); {
		case can&beginsName != 0:
			refusal = s.takeName()
		case can&beginsRun != 0:
			refusal = s.takeNumber()
		case can&standsAlone != 0:
			s.take(api.TokenMark, s.at+1)
		case can&saysNothing != 0:
			s.at++
		case can&beginsRemark != 0:
			s.skipRemark()
		case can&endsLine != 0:
			s.endLine()
		case can&endsText != 0:
			s.endLine()
			break scanning
		default:
			refusal = api.ErrWord
		}
	}
	if refusal != nil {
		return nil, &api.Fault{Layer: layer, Line: s.line, Col: s.col(), Err: refusal}
	}
	return s.words, nil
}

// Lines tells words line by line.
func Lines(l []api.Token) [][]api.Token {
	var lines [][]api.Token
	from := 0
	for i, word := range l {
		if word.Kind == api.TokenEnd {
			lines = append(lines, copied(l[from:i]))
			from = i + 1
		}
	}
	if from < len(l) {
		lines = append(lines, copied(l[from:]))
	}
	return lines
}

// copied tells the same words in memory of their own. (slices.Clone would leave an empty list in l's.)
func copied(l []api.Token) []api.Token { return append([]api.Token(nil), l...) }

// Number tells a number's value.
func Number(text string) (int, error) {
	n, refusal := value(text)
	if refusal != nil {
		return 0, &api.Fault{Layer: layer, Err: refusal}
	}
	return n, nil
}

// IsName tells whether it is an action's name.
func IsName(text string) bool { return isNameRun(text) && isSmall(text[0]) }

// IsConst tells whether it is a constant's name.
func IsConst(text string) bool { return isNameRun(text) && isGreat(text[0]) }

// scanner stands somewhere in a text, with the words that it has met.
type scanner struct {
	text  string
	at    int // the byte that is looked at
	line  int
	first int // the line's first byte
	words []api.Token
}

// col tells the column of the byte that is looked at.
func (s *scanner) col() int { return s.at - s.first + 1 }

// powersHere tells what the byte that is looked at may do, or that there is none.
func (s *scanner) powersHere() int {
	if s.at == len(s.text) {
		return endsText
	}
	return powers(s.text[s.at])
}

// take puts the word that goes from here up to end behind the others.
func (s *scanner) take(kind, end int) {
	// A copy: a word that somebody keeps would else keep the whole text.
	word := strings.Clone(s.text[s.at:end])
	s.words = append(s.words, api.Token{Kind: kind, Text: word, Line: s.line, Col: s.col()})
	s.at = end
}

// takeName takes a name, or tells api's error against it and stays at it.
func (s *scanner) takeName() error {
	end := runEnd(s.text, s.at)
	if end-s.at > api.MaxName {
		return api.ErrLong
	}
	s.take(api.TokenName, end)
	return nil
}

// takeNumber takes a number, or tells api's error against it and stays at it.
func (s *scanner) takeNumber() error {
	end := runEnd(s.text, s.at)
	if _, refusal := value(s.text[s.at:end]); refusal != nil {
		return refusal
	}
	s.take(api.TokenNumber, end)
	return nil
}

// skipRemark goes to the end of the line.
func (s *scanner) skipRemark() {
	for s.at < len(s.text) && s.text[s.at] != '\n' {
		s.at++
	}
}

// endLine closes the line that ends here, and goes to the next one.
func (s *scanner) endLine() {
	if n := len(s.words); n > 0 && s.words[n-1].Line == s.line {
		s.words = append(s.words, api.Token{Kind: api.TokenEnd, Text: "\n", Line: s.line, Col: s.col()})
	}
	s.at++
	s.line++
	s.first = s.at
}

// runEnd tells where the run of letters, digits and _ that goes on at from ends.
func runEnd(text string, from int) int {
	end := from
	for end < len(text) && powers(text[end])&goesOn != 0 {
		end++
	}
	return end
}

// isNameRun tells whether the text is wholly a run, and not too long for a name.
func isNameRun(text string) bool {
	return text != "" && len(text) <= api.MaxName && runEnd(text, 0) == len(text)
}

// value tells a number's value, or api's error against it.
func value(text string) (int, error) {
	if text == "" || text[0] == '0' && text != "0" {
		return 0, api.ErrWord
	}
	for i := range len(text) {
		if !isDigit(text[i]) {
			return 0, api.ErrWord
		}
	}
	n := 0
	for i := range len(text) {
		digit := int(text[i] - '0')
		// Asked ahead of the step, so that no width of int overflows.
		if n > (api.MaxNumber-digit)/10 {
			return 0, api.ErrLong
		}
		n = 10*n + digit
	}
	return n, nil
}
