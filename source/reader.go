package source

import (
	"errors"

	"semblance/act"
	"semblance/api"
	"semblance/term"
)

// reader goes down the grammar, and puts terms as they come to their end.
type reader struct {
	words   []api.Token // each line ends in a TokenEnd, that only end takes
	at      int         // the word that is looked at
	names   *act.Table
	store   *term.Store
	numbers map[string]int // of the constants that are defined
	nesting int            // brackets and prefixes that are open
	guards  int            // prefixes that are open
	needed  []int          // the constants that were met not below a prefix
	unknown []api.Token    // the constants that were met and are not defined
}

// attempt tells the first fault that read gives up with.
func attempt(read func()) (err error) {
	defer func() {
		given := recover()
		if given == nil {
			return
		}
		var first *api.Fault
		if cause, ok := given.(error); ok && errors.As(cause, &first) {
			err = first
			return
		}
		panic(given)
	}()
	read()
	return nil
}

// giveUp ends the reading with an error at a word.
func giveUp(word api.Token, err error) {
	panic(&api.Fault{Layer: layer, Line: word.Line, Col: word.Col, Err: err})
}

// word tells the word that is looked at.
func (r *reader) word() api.Token { return r.words[r.at] }

// take goes on behind the word that is looked at, if that is its text.
func (r *reader) take(text string) bool {
	if r.word().Text != text {
		return false
	}
	r.at++
	return true
}

// demand gives up, unless the word that is looked at has that text; it goes on behind it.
func (r *reader) demand(text string) {
	if !r.take(text) {
		giveUp(r.word(), api.ErrSyntax)
	}
}

// end goes on behind the line's end.
func (r *reader) end() {
	if r.word().Kind != api.TokenEnd {
		giveUp(r.word(), api.ErrSyntax)
	}
	r.at++
}

// put puts a term; its number.
func (r *reader) put(t api.Term) int {
	id, err := r.store.Put(t)
	if err != nil {
		panic(handedOn(err))
	}
	return id
}

// definitions reads all lines; their bodies.
func (r *reader) definitions() []int {
	var heads []api.Token
	var bodies []int
	var needs [][]int
	for r.at < len(r.words) {
		heads = append(heads, r.head(len(heads)))
		r.needed = nil
		bodies = append(bodies, r.sum())
		r.end()
		needs = append(needs, r.needed)
	}
	if len(heads) == 0 {
		panic(fault(api.ErrNone))
	}
	r.demandKnown()
	for k, head := range heads {
		if needsItself(needs, k) {
			giveUp(head, api.ErrUnguarded)
		}
	}
	return bodies
}

// head reads a definition up to its body; the word of its constant. There are k definitions ahead of it.
func (r *reader) head(k int) api.Token {
	word := r.constant()
	number, numbered := r.numbers[word.Text]
	switch {
	case numbered && number < k:
		giveUp(word, api.ErrTwice)
	case !numbered:
		// It is the first of its name, so that only their number can have kept it out.
		giveUp(word, api.ErrLong)
	}
	r.demand("=")
	return word
}

// alone reads a term on one line that nothing follows; its number.
func (r *reader) alone() int {
	id := r.sum()
	r.end()
	if r.at < len(r.words) {
		giveUp(r.word(), api.ErrSyntax)
	}
	r.demandKnown()
	return id
}

// demandKnown gives up at the first constant that is not defined.
func (r *reader) demandKnown() {
	if len(r.unknown) > 0 {
		giveUp(r.unknown[0], api.ErrUnknown)
	}
}

// needsItself tells whether the constant k comes again, if one goes from each constant to those of its list.
func needsItself(needs [][]int, k int) bool {
	seen := make([]bool, len(needs))
	todo := []int{k}
	for len(todo) > 0 {
		next := todo[len(todo)-1]
		todo = todo[:len(todo)-1]
		for _, n := range needs[next] {
			if !seen[n] {
				seen[n] = true
				todo = append(todo, n)
			}
		}
	}
	return seen[k]
}
