package source

import (
	"slices"

	"semblance/act"
	"semblance/api"
	"semblance/lexis"
)

// What a word may be, as the grammar asks for it.
const (
	isSilent = 1 << iota
	isName
	beginsPrefix
	beginsUnit
)

// roles tells all that a word may be: the silent name may be what a name may, and that begins what a co-name's sign does.
func roles(word api.Token) int {
	can := 0
	switch {
	case word.Text == "tau":
		can |= isSilent
		fallthrough
	case lexis.IsName(word.Text):
		can |= isName
		fallthrough
	case word.Text == "'":
		can |= beginsPrefix
		fallthrough
	case lexis.IsConst(word.Text), word.Text == "0", word.Text == "(":
		can |= beginsUnit
	}
	return can
}

// sum reads a sum; its number, as for the parts below.
func (r *reader) sum() int {
	id := r.par()
	for r.take("+") {
		id = r.put(api.Term{Kind: api.TermSum, A: id, B: r.par()})
	}
	return id
}

func (r *reader) par() int {
	id := r.post()
	for r.take("|") {
		id = r.put(api.Term{Kind: api.TermPar, A: id, B: r.post()})
	}
	return id
}

func (r *reader) post() int {
	id := r.unit()
	for {
		switch {
		case r.take(`\`):
			id = r.put(api.Term{Kind: api.TermRes, A: id, Names: r.restriction()})
		case r.take("["):
			id = r.put(api.Term{Kind: api.TermRen, A: id, Pairs: r.renaming()})
		default:
			return id
		}
	}
}

func (r *reader) unit() int {
	word := r.word()
	can := roles(word)
	switch {
	case can&beginsUnit == 0:
		giveUp(word, api.ErrSyntax)
	case can&beginsPrefix != 0:
		return r.prefix()
	case r.take("("):
		return r.bracket(word)
	case r.take("0"):
		return r.put(api.Term{Kind: api.TermNil})
	}
	return r.use()
}

// bracket reads what stands behind a bracket, up to the one that closes it.
func (r *reader) bracket(opening api.Token) int {
	r.open(opening)
	id := r.sum()
	r.demand(")")
	r.nesting--
	return id
}

func (r *reader) prefix() int {
	label := r.label()
	r.demand(".")
	r.guards++
	part := r.unit()
	r.guards--
	r.nesting--
	return r.put(api.Term{Kind: api.TermPrefix, Label: label, A: part})
}

// label reads the label of a prefix, and opens that.
func (r *reader) label() int {
	first, label := r.word(), api.Tau
	switch {
	case r.take("'"):
		r.open(first)
		return act.Label(r.name(), true)
	case roles(first)&isSilent != 0:
		r.at++
	default:
		label = act.Label(r.name(), false)
	}
	// Behind the name: at one word a name that is too many comes ahead of what stands too deep.
	r.open(first)
	return label
}

// open counts a bracket or a prefix that begins at a word.
func (r *reader) open(word api.Token) {
	if r.nesting == api.MaxDepth {
		giveUp(word, api.ErrDeep)
	}
	r.nesting++
}

// name reads the name of an action that is not silent; its number.
func (r *reader) name() int {
	word := r.word()
	can := roles(word)
	switch {
	case can&isName == 0:
		giveUp(word, api.ErrSyntax)
	case can&isSilent != 0:
		giveUp(word, api.ErrSilent)
	}
	number, err := r.names.Add(word.Text)
	if err != nil {
		// The table refuses no other name than one too many.
		giveUp(word, api.ErrLong)
	}
	r.at++
	return number
}

// constant reads the name of a constant; its word.
func (r *reader) constant() api.Token {
	word := r.word()
	if !lexis.IsConst(word.Text) {
		giveUp(word, api.ErrSyntax)
	}
	r.at++
	return word
}

// use reads a constant within a term. One that is not defined is told behind all else, and 0 stands for it up to then.
func (r *reader) use() int {
	word := r.constant()
	k, defined := r.numbers[word.Text]
	if !defined {
		r.unknown = append(r.unknown, word)
		return r.put(api.Term{Kind: api.TermNil})
	}
	if r.guards == 0 {
		r.needed = append(r.needed, k)
	}
	return r.put(api.Term{Kind: api.TermConst, A: k})
}

// restriction reads the names of a restriction; rising.
func (r *reader) restriction() []int {
	r.demand("{")
	var names []int
	r.list("}", func() {
		word := r.word()
		name := r.name()
		if slices.Contains(names, name) {
			giveUp(word, api.ErrTwice)
		}
		names = append(names, name)
	})
	slices.Sort(names)
	return names
}

// renaming reads the pairs of a renaming behind its bracket; rising by the old names.
func (r *reader) renaming() []api.Pair {
	var pairs []api.Pair
	r.list("]", func() {
		renamed := r.name()
		r.demand("/")
		word := r.word()
		old := r.name()
		if slices.ContainsFunc(pairs, func(pair api.Pair) bool { return pair.Old == old }) {
			giveUp(word, api.ErrTwice)
		}
		pairs = append(pairs, api.Pair{Old: old, New: renamed})
	})
	slices.SortFunc(pairs, func(a, b api.Pair) int { return a.Old - b.Old })
	return pairs
}

// list reads items with commas between, perhaps none, up to the bracket that closes them.
func (r *reader) list(closing string, item func()) {
	if r.take(closing) {
		return
	}
	item()
	for r.take(",") {
		item()
	}
	r.demand(closing)
}
