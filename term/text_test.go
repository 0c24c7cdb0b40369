package term_test

import (
	"fmt"
	"slices"
	"strings"
	"testing"

	"semblance/act"
	"semblance/api"
	"semblance/term"
)

// tableOf makes a table of names.
func tableOf(t *testing.T, names ...string) *act.Table {
	t.Helper()
	table := act.New()
	for _, name := range names {
		if _, err := table.Add(name); err != nil {
			t.Fatal(err)
		}
	}
	return table
}

func TestP303EachKind(t *testing.T) {
	s, table := term.New(), tableOf(t, "a", "bell", "c_1")
	consts := []string{"P", "Queue", "R2"}
	told := func(want string, x api.Term) int {
		t.Helper()
		id := put(t, s, x)
		text, err := s.Text(id, table, consts)
		answered(t, want, text, err, want)
		return id
	}
	told("0", api.Term{Kind: api.TermNil})
	p := told("P", api.Term{Kind: api.TermConst})
	told("R2", api.Term{Kind: api.TermConst, A: 2})
	told("tau.0", api.Term{Kind: api.TermPrefix})
	a := told("a.0", api.Term{Kind: api.TermPrefix, Label: 1})
	told("'a.0", api.Term{Kind: api.TermPrefix, Label: 2})
	told("'c_1.P", api.Term{Kind: api.TermPrefix, Label: 6, A: p})
	told("bell.a.0", api.Term{Kind: api.TermPrefix, Label: 3, A: a})
	told("P + a.0", api.Term{Kind: api.TermSum, A: p, B: a})
	told("P | a.0", api.Term{Kind: api.TermPar, A: p, B: a})
	told(`P\{}`, api.Term{Kind: api.TermRes, A: p})
	told(`P\{bell}`, api.Term{Kind: api.TermRes, A: p, Names: []int{1}})
	told(`a.0\{a, bell, c_1}`, api.Term{Kind: api.TermRes, A: a, Names: []int{0, 1, 2}})
	told("P[]", api.Term{Kind: api.TermRen, A: p})
	told("P[bell/a]", api.Term{Kind: api.TermRen, A: p, Pairs: []api.Pair{{Old: 0, New: 1}}})
	told("a.0[c_1/a, bell/bell, a/c_1]", api.Term{Kind: api.TermRen, A: a, Pairs: []api.Pair{{Old: 0, New: 2}, {Old: 1, New: 1}, {Old: 2, New: 0}}})
	if !slices.Equal(table.Names(), []string{"a", "bell", "c_1"}) || !slices.Equal(consts, []string{"P", "Queue", "R2"}) {
		t.Errorf("changed: %v, %v", table.Names(), consts)
	}
}

func TestP303Brackets(t *testing.T) {
	s, table := term.New(), tableOf(t, "a", "b")
	a, b := put(t, s, api.Term{Kind: api.TermPrefix, Label: 1}), put(t, s, api.Term{Kind: api.TermPrefix, Label: 3})
	part := []struct {
		id   int
		text string
		// bare tells in which of the places below it stands without brackets.
		bare string
	}{
		{0, "0", "xxxxxxx"},
		{put(t, s, api.Term{Kind: api.TermConst}), "P", "xxxxxxx"},
		{a, "a.0", "xxxxxxx"},
		{put(t, s, api.Term{Kind: api.TermSum, A: a, B: b}), "a.0 + b.0", ".....x."},
		{put(t, s, api.Term{Kind: api.TermPar, A: a, B: b}), "a.0 | b.0", "...x.xx"},
		{put(t, s, api.Term{Kind: api.TermRes, A: a, Names: []int{1}}), `a.0\{b}`, ".xxxxxx"},
		{put(t, s, api.Term{Kind: api.TermRen, A: a, Pairs: []api.Pair{{Old: 1, New: 0}}}), "a.0[a/b]", ".xxxxxx"},
	}
	for _, p := range part {
		whole := []api.Term{
			{Kind: api.TermPrefix, Label: 2, A: p.id},
			{Kind: api.TermRes, A: p.id, Names: []int{0}},
			{Kind: api.TermRen, A: p.id, Pairs: []api.Pair{{Old: 0, New: 1}}},
			{Kind: api.TermPar, A: p.id, B: 0},
			{Kind: api.TermPar, A: 0, B: p.id},
			{Kind: api.TermSum, A: p.id, B: 0},
			{Kind: api.TermSum, A: 0, B: p.id},
		}
		for i, around := range []string{"'a._", `_\{a}`, "_[b/a]", "_ | 0", "0 | _", "_ + 0", "0 + _"} {
			inner := "(" + p.text + ")"
			if p.bare[i] == 'x' {
				inner = p.text
			}
			want := strings.Replace(around, "_", inner, 1)
			text, err := s.Text(put(t, s, whole[i]), table, []string{"P"})
			answered(t, around, text, err, want)
		}
	}
}

// reader reads a text of the names a, b and the constants P, Q by chapter 4's grammar, and puts its terms.
type reader struct {
	t    *testing.T
	s    *term.Store
	text string
}

// take takes a word away, if the text begins with it.
func (r *reader) take(word string) bool {
	rest, ok := strings.CutPrefix(r.text, word)
	r.text = strings.TrimLeft(rest, " ")
	return ok
}

func (r *reader) must(word string) {
	if !r.take(word) {
		r.t.Fatalf("no %q ahead of %q", word, r.text)
	}
}

func (r *reader) put(x api.Term) int { return put(r.t, r.s, x) }

func (r *reader) sum() int {
	id := r.par()
	for r.take("+") {
		id = r.put(api.Term{Kind: api.TermSum, A: id, B: r.par()})
	}
	return id
}

func (r *reader) par() int {
	id := r.post()
	for r.take("|") {
		id = r.put(api.Term{Kind: api.TermPar, A: id, B: r.post()})
	}
	return id
}

func (r *reader) post() int {
	id := r.unit()
	for {
		switch {
		case r.take(`\`):
			r.must("{")
			x := api.Term{Kind: api.TermRes, A: id}
			for !r.take("}") {
				x.Names = append(x.Names, r.name())
				r.take(",")
			}
			id = r.put(x)
		case r.take("["):
			x := api.Term{Kind: api.TermRen, A: id}
			for !r.take("]") {
				pair := api.Pair{New: r.name()}
				r.must("/")
				pair.Old = r.name()
				x.Pairs = append(x.Pairs, pair)
				r.take(",")
			}
			id = r.put(x)
		default:
			return id
		}
	}
}

func (r *reader) name() int {
	if r.take("a") {
		return 0
	}
	r.must("b")
	return 1
}

func (r *reader) unit() int {
	switch {
	case r.take("0"):
		return r.put(api.Term{Kind: api.TermNil})
	case r.take("P"):
		return r.put(api.Term{Kind: api.TermConst, A: 0})
	case r.take("Q"):
		return r.put(api.Term{Kind: api.TermConst, A: 1})
	case r.take("("):
		id := r.sum()
		r.must(")")
		return id
	case r.take("tau"):
		r.must(".")
		return r.put(api.Term{Kind: api.TermPrefix, A: r.unit()})
	}
	co := r.take("'")
	label := act.Label(r.name(), co)
	r.must(".")
	return r.put(api.Term{Kind: api.TermPrefix, Label: label, A: r.unit()})
}

// over puts all terms of one sign over these parts.
func over(t *testing.T, s *term.Store, firsts, seconds []int) []int {
	var l []int
	for _, a := range firsts {
		for label := range 5 {
			l = append(l, put(t, s, api.Term{Kind: api.TermPrefix, Label: label, A: a}))
		}
		l = append(l, put(t, s, api.Term{Kind: api.TermRes, A: a}), put(t, s, api.Term{Kind: api.TermRes, A: a, Names: []int{0, 1}}))
		l = append(l, put(t, s, api.Term{Kind: api.TermRen, A: a}), put(t, s, api.Term{Kind: api.TermRen, A: a, Pairs: []api.Pair{{Old: 0, New: 1}, {Old: 1, New: 0}}}))
		for _, b := range seconds {
			l = append(l, put(t, s, api.Term{Kind: api.TermSum, A: a, B: b}), put(t, s, api.Term{Kind: api.TermPar, A: a, B: b}))
		}
	}
	return l
}

func TestP303IsReadAsTheSameTerm(t *testing.T) {
	s, table := term.New(), tableOf(t, "a", "b")
	p, q := put(t, s, api.Term{Kind: api.TermConst}), put(t, s, api.Term{Kind: api.TermConst, A: 1})
	one := over(t, s, []int{0, p, q}, []int{0, q})
	two := over(t, s, one, one)
	over(t, s, two, one[:13])
	size := s.Size()
	for id := range size {
		text, err := s.Text(id, table, []string{"P", "Q"})
		if err != nil {
			t.Fatalf("Text(%d): %v", id, err)
		}
		r := &reader{t: t, s: s, text: text}
		if got := r.sum(); got != id || r.text != "" {
			t.Fatalf("%q is read as %d, not %d, with %q left", text, got, id, r.text)
		}
	}
	if s.Size() != size {
		t.Errorf("reading made %d terms of %d", s.Size(), size)
	}
}

func TestP303Unknown(t *testing.T) {
	s := term.New()
	p := put(t, s, api.Term{Kind: api.TermConst, A: 1})
	for _, x := range []api.Term{
		{Kind: api.TermPrefix, Label: 3}, {Kind: api.TermPrefix, Label: 4}, {Kind: api.TermPrefix, Label: api.MaxLabels - 1},
		{Kind: api.TermRes, Names: []int{1}}, {Kind: api.TermRes, Names: []int{0, 1}},
		{Kind: api.TermRen, Pairs: []api.Pair{{Old: 0, New: 1}}}, {Kind: api.TermRen, Pairs: []api.Pair{{Old: 1, New: 0}}}, {Kind: api.TermRen, Pairs: []api.Pair{{Old: 0, New: 0}, {Old: 1, New: 0}}},
		{Kind: api.TermConst, A: 1},
	} {
		id := put(t, s, x)
		for _, whole := range []int{id, put(t, s, api.Term{Kind: api.TermSum, B: id}), put(t, s, api.Term{Kind: api.TermPar, A: id}), put(t, s, api.Term{Kind: api.TermPrefix, Label: 1, A: id}), put(t, s, api.Term{Kind: api.TermRes, A: id}), put(t, s, api.Term{Kind: api.TermRen, A: id})} {
			text, err := s.Text(whole, tableOf(t, "a"), []string{"P"})
			refused(t, fmt.Sprint(x), text, err, api.ErrUnknown)
		}
	}
	text, err := s.Text(p, nil, nil)
	refused(t, "no constants", text, err, api.ErrUnknown)
	text, err = s.Text(p, nil, []string{"P", "Q"})
	answered(t, "a constant needs no table", text, err, "Q")
}

func TestP303NilTable(t *testing.T) {
	s := term.New()
	for want, x := range map[string]api.Term{"0": {Kind: api.TermNil}, "tau.0": {Kind: api.TermPrefix}, `0\{}`: {Kind: api.TermRes}, "0[]": {Kind: api.TermRen}} {
		text, err := s.Text(put(t, s, x), nil, nil)
		answered(t, "needs no name", text, err, want)
	}
	for _, x := range []api.Term{{Kind: api.TermPrefix, Label: 1}, {Kind: api.TermRes, Names: []int{0}}, {Kind: api.TermRen, Pairs: []api.Pair{{}}}} {
		id := put(t, s, x)
		for _, table := range []*act.Table{nil, {}, act.New()} {
			text, err := s.Text(id, table, nil)
			refused(t, "needs a name", text, err, api.ErrUnknown)
		}
	}
}

func TestP303NoSuchTerm(t *testing.T) {
	s := term.New()
	for _, id := range []int{-1, 1, least, greatest} {
		text, err := s.Text(id, tableOf(t, "a"), nil)
		refused(t, fmt.Sprint("Text ", id), text, err, api.ErrIndex)
	}
}

// chain puts signs of a kind one in the other, n times, each with its part first.
func chain(t *testing.T, s *term.Store, x api.Term, n int) int {
	for range n {
		x.A = put(t, s, x)
	}
	return x.A
}

func TestP303Long(t *testing.T) {
	s := term.New()
	constant := put(t, s, api.Term{Kind: api.TermConst})
	for around, x := range map[string]api.Term{"_": {Kind: api.TermConst}, "tau._": {Kind: api.TermPrefix, A: constant}, "_ + 0": {Kind: api.TermSum, A: constant}, "0 | _": {Kind: api.TermPar, B: constant}, `_\{}`: {Kind: api.TermRes, A: constant}, "_[]": {Kind: api.TermRen, A: constant}} {
		id := put(t, s, x)
		name := strings.Repeat("P", api.MaxText-len(around)+1)
		text, err := s.Text(id, nil, []string{name})
		answered(t, "just not too long", text, err, strings.Replace(around, "_", name, 1))
		text, err = s.Text(id, nil, []string{name + "P"})
		refused(t, "a byte too long", text, err, api.ErrLong)
	}
}

func TestP303LongBySigns(t *testing.T) {
	for _, x := range []api.Term{{Kind: api.TermPrefix, Label: 1}, {Kind: api.TermRen}} {
		s, table := term.New(), tableOf(t, "a")
		id := chain(t, s, x, api.MaxText/2-1)
		text, err := s.Text(id, table, nil)
		if err != nil || len(text) != api.MaxText-1 {
			t.Errorf("%v: %d bytes, %v", x, len(text), err)
		}
		x.A = id
		text, err = s.Text(put(t, s, x), table, nil)
		refused(t, "a sign too much", text, err, api.ErrLong)
	}
	s, table := term.New(), tableOf(t, "a")
	bracketed := put(t, s, api.Term{Kind: api.TermSum})
	// A sum of n sums has 10 n - 3 bytes.
	id := bracketed
	for range (api.MaxText - 5) / 10 {
		id = put(t, s, api.Term{Kind: api.TermSum, A: id, B: bracketed})
	}
	text, err := s.Text(id, table, nil)
	if want := "0 + 0" + strings.Repeat(" + (0 + 0)", (api.MaxText-5)/10); text != want || err != nil {
		t.Errorf("%d bytes, not %d, %v", len(text), len(want), err)
	}
	text, err = s.Text(put(t, s, api.Term{Kind: api.TermSum, A: id, B: bracketed}), table, nil)
	refused(t, "a part too much", text, err, api.ErrLong)
}

func TestP303LongEndsQuickly(t *testing.T) {
	const deep = 1 << 16
	for _, x := range []api.Term{{Kind: api.TermPrefix}, {Kind: api.TermSum}, {Kind: api.TermPar}, {Kind: api.TermRes, Names: rising(api.MaxNames)}, {Kind: api.TermRen, Pairs: swapped(api.MaxNames)}} {
		s, table := term.New(), act.New()
		for i := range api.MaxNames {
			if _, err := table.Add(fmt.Sprint(strings.Repeat("n", 28), i)); err != nil {
				t.Fatal(err)
			}
		}
		text, err := s.Text(chain(t, s, x, deep), table, nil)
		refused(t, "deep", text, err, api.ErrLong)
	}
	s := term.New()
	for _, kind := range []int{api.TermSum, api.TermPar} {
		for part := range 2 {
			id := part * put(t, s, api.Term{Kind: api.TermConst})
			for range deep {
				id = put(t, s, api.Term{Kind: kind, A: id, B: id})
			}
			// A constant whose name has no bytes: the signs alone are too long.
			text, err := s.Text(id, nil, []string{""})
			refused(t, "doubled", text, err, api.ErrLong)
		}
	}
}

func TestP303UnknownComesAheadOfLong(t *testing.T) {
	s := term.New()
	long := doubled(t, s, 0, 60)
	for _, x := range []api.Term{{Kind: api.TermConst}, {Kind: api.TermPrefix, Label: 1}, {Kind: api.TermRes, Names: []int{0}}, {Kind: api.TermRen, Pairs: []api.Pair{{}}}} {
		unnamed := put(t, s, x)
		for _, id := range []int{put(t, s, api.Term{Kind: api.TermSum, A: long, B: unnamed}), put(t, s, api.Term{Kind: api.TermSum, A: unnamed, B: long}), doubled(t, s, unnamed, 60)} {
			text, err := s.Text(id, nil, nil)
			refused(t, fmt.Sprint(x), text, err, api.ErrUnknown)
			text, err = s.Text(id, tableOf(t, "a"), []string{"P"})
			refused(t, fmt.Sprint(x, " named"), text, err, api.ErrLong)
		}
	}
	over := put(t, s, api.Term{Kind: api.TermSum, A: put(t, s, api.Term{Kind: api.TermConst}), B: put(t, s, api.Term{Kind: api.TermConst, A: 1})})
	text, err := s.Text(over, nil, []string{strings.Repeat("P", api.MaxText+1)})
	refused(t, "one too long, one without a name", text, err, api.ErrUnknown)
}
