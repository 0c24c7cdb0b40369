package term

import (
	"errors"
	"slices"
	"strings"

	"semblance/act"
	"semblance/api"
)

// How loosely the sign of a term binds; and the most that a place bears without brackets.
const (
	tight = iota
	post
	par
	sum
)

// writer tells the text of a term.
type writer struct {
	store  *Store
	names  *act.Table
	consts []string
	size   int // bytes that are known to be in the text, written or not
}

// piece is a piece of a text: a term that is yet to be told, or else words as they stand.
type piece struct {
	isTerm bool
	id     int
	words  string
}

// Text tells a term as a text.
func (s *Store) Text(id int, names *act.Table, consts []string) (string, error) {
	if err := s.lacks(id); err != nil {
		return "", err
	}
	if names == nil {
		// The silent action has a text without any name: that a nil table would refuse.
		names = act.New()
	}
	w := &writer{store: s, names: names, consts: consts}
	text, err := w.write(id)
	if errors.Is(err, api.ErrLong) && !w.named(id) {
		// What has no name comes first, and may stand behind where the text grew too long.
		err = fault(api.ErrUnknown)
	}
	return text, err
}

// write tells the text of a term. It opens terms from the left, and gives up as soon as the pieces that it
// knows are too long: each sign counts as it is met, so that it ends quickly on a term of very many parts.
func (w *writer) write(id int) (string, error) {
	var out strings.Builder
	todo := []piece{{isTerm: true, id: id}}
	for len(todo) > 0 {
		next := todo[len(todo)-1]
		todo = todo[:len(todo)-1]
		if !next.isTerm {
			out.WriteString(next.words)
			continue
		}
		opened, err := w.open(next.id)
		if err != nil {
			return "", err
		}
		slices.Reverse(opened)
		todo = append(todo, opened...)
	}
	return out.String(), nil
}

// open tells the pieces of a term, and counts their words.
func (w *writer) open(id int) ([]piece, error) {
	opened, err := w.pieces(w.store.terms[id])
	if err != nil {
		return nil, err
	}
	for _, p := range opened {
		if len(p.words) > api.MaxText-w.size {
			return nil, fault(api.ErrLong)
		}
		w.size += len(p.words)
	}
	return opened, nil
}

// named tells whether all names and constants in a term have a name.
func (w *writer) named(id int) bool {
	for _, i := range w.store.within(id) {
		if _, err := w.pieces(w.store.terms[i]); errors.Is(err, api.ErrUnknown) {
			return false
		}
	}
	return true
}

// pieces tells the pieces of a term.
func (w *writer) pieces(t api.Term) ([]piece, error) {
	switch t.Kind {
	case api.TermPrefix:
		label, err := known(w.names.Text(t.Label))
		return slices.Concat(words(label+"."), w.part(t.A, tight)), err
	case api.TermSum:
		return slices.Concat(w.part(t.A, sum), words(" + "), w.part(t.B, par)), nil
	case api.TermPar:
		return slices.Concat(w.part(t.A, par), words(" | "), w.part(t.B, post)), nil
	case api.TermRes:
		names, err := w.joined(", ", t.Names...)
		return slices.Concat(w.part(t.A, post), words(`\{`+names+"}")), err
	case api.TermRen:
		pairs, err := w.renaming(t.Pairs)
		return slices.Concat(w.part(t.A, post), words("["+pairs+"]")), err
	case api.TermConst:
		if t.A >= len(w.consts) {
			return nil, fault(api.ErrUnknown)
		}
		return words(w.consts[t.A]), nil
	}
	return words("0"), nil
}

// words tells words as a piece.
func words(text string) []piece { return []piece{{words: text}} }

// part tells a part of a term, in brackets, if its place does not bear it without them.
func (w *writer) part(id, bears int) []piece {
	bare := []piece{{isTerm: true, id: id}}
	if looseness(w.store.terms[id].Kind) <= bears {
		return bare
	}
	return slices.Concat(words("("), bare, words(")"))
}

// looseness tells how loosely the sign of a kind of terms binds.
func looseness(kind int) int {
	l := tight
	switch kind {
	case api.TermSum:
		l++
		fallthrough
	case api.TermPar:
		l++
		fallthrough
	case api.TermRes, api.TermRen:
		l++
	}
	return l
}

// known hands on a text of the table of names; what that refuses has no name.
func known(text string, err error) (string, error) {
	if err != nil {
		return "", fault(api.ErrUnknown)
	}
	return text, nil
}

// joined tells names as a text, with a sign between.
func (w *writer) joined(sign string, names ...int) (string, error) {
	var list []string
	for _, i := range names {
		name, err := known(w.names.Name(i))
		if err != nil {
			return "", err
		}
		list = append(list, name)
	}
	return strings.Join(list, sign), nil
}

// renaming tells pairs as a text.
func (w *writer) renaming(pairs []api.Pair) (string, error) {
	var list []string
	for _, pair := range pairs {
		names, err := w.joined("/", pair.New, pair.Old)
		if err != nil {
			return "", err
		}
		list = append(list, names)
	}
	return strings.Join(list, ", "), nil
}
