package formula

import (
	"errors"

	"semblance/api"
	"semblance/lexis"
)

// Parse tells the formula of a text.
func Parse(text string) ([]api.Node, error) {
	words, err := lexis.Scan(text)
	if err != nil {
		return nil, handedOn(err)
	}
	if len(words) == 0 {
		return nil, &api.Fault{Layer: layer, Line: 1, Col: 1, Err: api.ErrSyntax}
	}
	r := &reader{words: words}
	if err := attempt(r.alone); err != nil {
		return nil, err
	}
	return r.nodes, nil
}

// handedOn wraps a lower layer's error, at the same place.
func handedOn(err error) error {
	outer := &api.Fault{Layer: layer, Err: err}
	var inner *api.Fault
	if errors.As(err, &inner) {
		outer.Line, outer.Col = inner.Line, inner.Col
	}
	return outer
}

// attempt tells the fault that read gives up with, if it does.
func attempt(read func()) (err error) {
	defer func() {
		given := recover()
		if given == nil {
			return
		}
		var first *api.Fault
		if cause, ok := given.(error); ok && errors.As(cause, &first) {
			err = first
			return
		}
		panic(given)
	}()
	read()
	return nil
}

// giveUp ends the reading with an error at a word.
func giveUp(word api.Token, err error) {
	panic(&api.Fault{Layer: layer, Line: word.Line, Col: word.Col, Err: err})
}

// reader goes down the grammar, and puts nodes as their parts come to their end, which is postfix order.
type reader struct {
	words   []api.Token // each line ends in a TokenEnd
	at      int         // the word that is looked at
	nodes   []api.Node
	begun   int // nodes whose word was met, put or not
	nesting int // brackets, nots and mays that are open
}

// word tells the word that is looked at.
func (r *reader) word() api.Token { return r.words[r.at] }

// alone reads a formula on one line that no word follows.
func (r *reader) alone() {
	r.form()
	if r.word().Kind != api.TokenEnd {
		giveUp(r.word(), api.ErrSyntax)
	}
	r.at++
	if r.at < len(r.words) {
		giveUp(r.word(), api.ErrSyntax)
	}
}

func (r *reader) form() {
	r.part()
	for r.word().Text == "&" {
		r.begin()
		r.part()
		r.put(api.FormAnd, 0)
	}
}

func (r *reader) part() {
	word := r.word()
	switch word.Text {
	case "tt":
		r.begin()
		r.put(api.FormTrue, 0)
	case "~":
		r.open()
		r.begin()
		r.part()
		r.nesting--
		r.put(api.FormNot, 0)
	case "<":
		r.open()
		r.begin()
		label := r.label()
		r.demand(">")
		r.part()
		r.nesting--
		r.put(api.FormMay, label)
	case "(":
		r.open()
		r.at++
		r.form()
		r.demand(")")
		r.nesting--
	default:
		giveUp(word, api.ErrSyntax)
	}
}

// open counts what opens at the word that is looked at, ahead of its node: at one word what stands too deep is told first.
func (r *reader) open() {
	if r.nesting == api.MaxDepth {
		giveUp(r.word(), api.ErrDeep)
	}
	r.nesting++
}

// begin counts the node that the word that is looked at makes, and goes on behind it.
func (r *reader) begin() {
	if r.begun == api.MaxFormula {
		giveUp(r.word(), api.ErrFormula)
	}
	r.begun++
	r.at++
}

// put puts a node behind its parts.
func (r *reader) put(op, label int) { r.nodes = append(r.nodes, api.Node{Op: op, Label: label}) }

// demand gives up, unless the word that is looked at has that text; it goes on behind it.
func (r *reader) demand(text string) {
	if r.word().Text != text {
		giveUp(r.word(), api.ErrSyntax)
	}
	r.at++
}

// label reads a label's number.
func (r *reader) label() int {
	word := r.word()
	if word.Kind != api.TokenNumber {
		giveUp(word, api.ErrSyntax)
	}
	label, err := lexis.Number(word.Text)
	if err != nil {
		panic(handedOn(err))
	}
	if !isLabel(label) {
		giveUp(word, api.ErrIndex)
	}
	r.at++
	return label
}
