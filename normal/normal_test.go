package normal_test

import (
	"fmt"
	"slices"
	"sync"
	"testing"
	"time"

	"semblance/api"
	"semblance/generate"
	"semblance/normal"
	"semblance/quotient"
	"semblance/source"
)

// ownFault fails, unless err is a fault of this layer alone, without a place, around one of api's errors.
func ownFault(t testing.TB, what string, err, want error) {
	t.Helper()
	if f, is := err.(*api.Fault); !is || *f != (api.Fault{Layer: "normal", Err: want}) || api.Code(err) != api.Code(want) {
		t.Errorf("%s: %#v, not %v", what, err, want)
	}
}

// refuses fails, unless Of and Same answer that error of a term, and nothing else.
func (b *bench) refuses(what string, id int, want error) {
	b.Helper()
	form, err := normal.Of(b.program, id)
	ownFault(b, what+": Of", err, want)
	if form != 0 {
		b.Errorf("%s: Of tells %d beside an error", what, form)
	}
	is, err := normal.Same(b.program, id, id)
	ownFault(b, what+": Same", err, want)
	if is {
		b.Errorf("%s: Same tells true beside an error", what)
	}
}

// isForm fails, unless a term's normal form is that term.
func (b *bench) isForm(what string, id, want int) {
	b.Helper()
	if form, err := normal.Of(b.program, id); form != want || err != nil {
		b.Errorf("%s: the form is %d, %v, not %d", what, form, err, want)
	}
}

// soon fails, if something takes long.
func soon(t testing.TB, what string, do func()) {
	t.Helper()
	start := time.Now()
	do()
	if took := time.Since(start); took > 20*time.Second {
		t.Errorf("%s took %v", what, took)
	}
}

func TestP1801Given(t *testing.T) {
	b := usual(t)
	// Each one stands ahead of all that follow it.
	rising := []string{
		"0",
		"tau.0", "tau.Q", "a.0", "a.a.0", "a.b.0", "a.(0 + 0)", "'a.0", "b.0",
		"0 + 0", "0 + a.0", "a.0 + 0", "a.0 + (a.0 + 0)", "b.0 + 0", "(0 + 0) + 0", "P + 0", "P + P", "P + Q", "Q + 0",
		"0 | 0", "0 | P", "P | 0",
		"0\\{}", "0\\{a}", "0\\{a, b}", "0\\{a, c}", "0\\{b}", "P\\{}", "P\\{a}", "Q\\{}",
		"0[]", "0[a/a]", "0[a/a, a/b]", "0[b/a]", "0[a/b]", "0[b/b]", "P[]", "P[b/a]",
		"P", "Q",
	}
	for i, x := range rising {
		for j, y := range rising {
			if got := b.order(b.read(x), b.read(y)); got != sign(i-j) {
				t.Errorf("Order(%s, %s): %d", x, y, got)
			}
		}
	}
}

func TestP1801AsTheWordsHaveIt(t *testing.T) {
	b := usual(t)
	ids := append(b.atoms(), b.over(b.atoms())...)
	ids = append(ids, b.constant(api.MaxDefs-1), b.prefix(api.MaxLabels-1, 0), b.res(0, api.MaxNames-1), b.ren(0, api.Pair{Old: 3, New: api.MaxNames - 1}))
	trees := make([]*tree, len(ids))
	for i, id := range ids {
		trees[i] = b.tree(id)
	}
	for i, id := range ids {
		for j, other := range ids {
			if got, want := b.order(id, other), order(trees[i], trees[j]); got != want {
				t.Errorf("Order(%s, %s): %d, not %d", trees[i].shown(), trees[j].shown(), got, want)
			}
		}
	}
	n := &numbers{state: 1801}
	for range 40000 {
		id, other := b.grown(n, 1+n.below(12)), b.grown(n, 1+n.below(12))
		// Terms that are alike far down are told apart further down.
		if n.below(2) == 0 {
			above := b.grown(n, 1+n.below(6))
			id, other = b.par(above, b.sum(id, above)), b.par(above, b.sum(other, above))
		}
		if got, want := b.order(id, other), order(b.tree(id), b.tree(other)); got != want {
			t.Fatalf("Order(%s, %s): %d, not %d", b.tree(id).shown(), b.tree(other).shown(), got, want)
		}
	}
}

func TestP1801WhatCameFirstIsNoMatter(t *testing.T) {
	texts := []string{"b.0 + a.P", "a.P", "a.P + b.0", "P\\{b}", "P\\{a}", "P[b/a]", "Q | a.P", "'b.0", "0"}
	first, second := usual(t), usual(t)
	for i := range texts {
		second.read(texts[len(texts)-1-i])
	}
	for _, x := range texts {
		for _, y := range texts {
			if got, want := second.order(second.read(x), second.read(y)), first.order(first.read(x), first.read(y)); got != want {
				t.Errorf("Order(%s, %s): %d and %d", x, y, got, want)
			}
		}
	}
}

func TestP1801Deep(t *testing.T) {
	b := usual(t)
	wraps := map[string]func(id int) int{
		"prefixes":     func(id int) int { return b.prefix(1, id) },
		"sums left":    func(id int) int { return b.sum(id, b.store.Nil()) },
		"sums right":   func(id int) int { return b.sum(b.store.Nil(), id) },
		"both parts":   func(id int) int { return b.par(id, id) },
		"restrictions": func(id int) int { return b.res(id, 0) },
		"renamings":    func(id int) int { return b.ren(id, api.Pair{Old: 0, New: 1}) },
	}
	for what, wrap := range wraps {
		id, other := b.constant(0), b.constant(1)
		for range 1 << 16 {
			id, other = wrap(id), wrap(other)
		}
		for range 3 {
			if got := []int{b.order(id, other), b.order(other, id), b.order(id, id)}; !slices.Equal(got, []int{-1, 1, 0}) {
				t.Fatalf("%s: %v", what, got)
			}
		}
	}
}

func TestP1801Errors(t *testing.T) {
	b := usual(t)
	size := b.store.Size()
	for _, ids := range [][2]int{{0, -1}, {-1, 0}, {0, size}, {size, 0}, {least, least}, {greatest, greatest}, {size, size}, {0, greatest}, {least, 0}} {
		o, err := normal.Order(b.program, ids[0], ids[1])
		ownFault(t, fmt.Sprint("Order", ids), err, api.ErrIndex)
		if o != 0 {
			t.Errorf("Order%v: %d beside an error", ids, o)
		}
		o, err = normal.Order(nil, ids[0], ids[1])
		ownFault(t, fmt.Sprint("Order of nil", ids), err, api.ErrArg)
		if o != 0 {
			t.Errorf("Order%v of nil: %d beside an error", ids, o)
		}
	}
	_, err := normal.Order(&source.Program{}, 0, 0)
	ownFault(t, "a zero Program", err, api.ErrIndex)
	_, again := normal.Order(&source.Program{}, 0, 0)
	if err == again {
		t.Error("an error is told twice")
	}
	if got := b.order(size-1, size-1); got != 0 {
		t.Errorf("the last term beside itself: %d", got)
	}
}

func TestP1802Given(t *testing.T) {
	b := usual(t)
	for text, want := range map[string]string{
		"0":                                  "0",
		"P":                                  "P",
		"a.0":                                "a.0",
		"tau.(0 | 0)":                        "tau.0",
		"'a.(b.0 + a.0)":                     "'a.(a.0 + b.0)",
		"0 + 0":                              "0",
		"0 + (0 + 0)":                        "0",
		"P + 0":                              "P",
		"0 + P":                              "P",
		"P + P":                              "P",
		"(P + Q) + (Q + P)":                  "P + Q",
		"Q + (P + a.0)":                      "a.0 + P + Q",
		"(b.0 + 0) + (a.0 + b.0)":            "a.0 + b.0",
		"a.(0 + 0) + a.0":                    "a.0",
		"(P | Q) + (Q | P)":                  "P | Q",
		"(P + Q)\\{} + Q":                    "P + Q",
		"(P + Q)[a/a] + a.0":                 "a.0 + P + Q",
		"((P + Q)[a/a] + a.0)\\{} + 0 + b.0": "a.0 + b.0 + P + Q",
		"0 | 0":                              "0",
		"P | 0":                              "P",
		"P | P":                              "P | P",
		"a.0 | (0 | a.0)":                    "a.0 | a.0",
		"Q | (P | Q) | 0 | P":                "P | P | Q | Q",
		"(Q | P)\\{} | (Q | 0)[b/b]":         "P | Q | Q",
		"(P + 0) | (0 + P)":                  "P | P",
		"(Q + P) | (Q | P)":                  "(P + Q) | P | Q",
		"0\\{a}":                             "0",
		"(0 | 0)\\{a}":                       "0",
		"P\\{}":                              "P",
		"P\\{a}":                             "P\\{a}",
		"(P + 0)\\{a, b}":                    "P\\{a, b}",
		"P\\{a}\\{}":                         "P\\{a}",
		"P\\{}\\{a}":                         "P\\{a}",
		"P\\{a}\\{a}":                        "P\\{a}\\{a}",
		"(P\\{a} + P\\{a})\\{b}":             "P\\{a}\\{b}",
		"0[b/a]":                             "0",
		"(0 + 0)[b/a]":                       "0",
		"P[]":                                "P",
		"P[a/a]":                             "P",
		"P[a/a, b/b]":                        "P",
		"P[b/a, b/b]":                        "P[b/a]",
		"P[a/a, a/b, c/c]":                   "P[a/b]",
		"P[b/a, a/b]":                        "P[b/a, a/b]",
		"(P | 0)[b/a][b/b]":                  "P[b/a]",
		"(P\\{})[a/a]":                       "P",
		"P[b/a] + P\\{a}":                    "P\\{a} + P[b/a]",
		"(Q + P)\\{a} | 0":                   "(P + Q)\\{a}",
	} {
		if got := b.print(b.of(b.read(text))); got != want {
			t.Errorf("%s: %s, not %s", text, got, want)
		}
	}
}

// holdsForm fails, unless the normal form of a term, and its own, are as the words have it.
func (b *bench) holdsForm(id int) {
	b.Helper()
	want, _ := formOf(b.tree(id))
	form := b.of(id)
	if got := b.tree(form).shown(); got != want.shown() {
		b.Fatalf("%s: %s, not %s", b.tree(id).shown(), got, want.shown())
	}
	if again := b.of(form); again != form {
		b.Fatalf("%s: the form %s has the form %s", b.tree(id).shown(), b.tree(form).shown(), b.tree(again).shown())
	}
}

func TestP1802AsTheWordsHaveIt(t *testing.T) {
	b := usual(t)
	ids := append(b.atoms(), b.over(b.atoms())...)
	ids = append(ids, b.over(ids)...)
	for _, id := range ids {
		b.holdsForm(id)
	}
	n := &numbers{state: 1802}
	for range 20000 {
		b.holdsForm(b.grown(n, 1+n.below(30)))
	}
	for range 100 {
		b.holdsForm(b.grown(n, 600))
	}
}

func TestP1802WhatWasAskedAheadIsNoMatter(t *testing.T) {
	text := "(Q + c.b.0)\\{} + (b.0 | c.0 | a.(Q + P) | 0) + (c.0 + P)[a/a]"
	b := usual(t)
	want := b.print(b.of(b.read(text)))
	for _, ahead := range []string{"c.0 + P", "b.0 + Q", "Q + P", "P + Q", "a.(P + Q)", "b.0 | c.0", "P + c.b.0 + c.0"} {
		other := usual(t)
		for _, name := range []string{"c", "b", "a"} {
			other.read(name + ".0")
		}
		other.of(other.read(ahead))
		if got := other.print(other.of(other.read(text))); got != want {
			t.Errorf("behind %s: %s, not %s", ahead, got, want)
		}
		if got := other.print(other.of(other.read(text))); got != want {
			t.Errorf("once more behind %s: %s, not %s", ahead, got, want)
		}
	}
}

func TestP1802TermsStay(t *testing.T) {
	b := usual(t)
	n := &numbers{state: 3}
	for range 200 {
		b.grown(n, 20)
	}
	size := b.store.Size()
	var before []string
	for id := range size {
		x, _ := b.store.Get(id)
		before = append(before, fmt.Sprint(x))
	}
	for id := range size {
		b.of(id)
	}
	for id := range size {
		if x, _ := b.store.Get(id); fmt.Sprint(x) != before[id] {
			t.Fatalf("the term %d was %s, and is %v", id, before[id], x)
		}
	}
	if names := b.program.Names().Names(); !slices.Equal(names, []string{"a", "b", "c"}) || b.program.Defs() != 2 {
		t.Errorf("the program has %v and %d definitions", names, b.program.Defs())
	}
}

func TestP1802WhatTheProgramLacks(t *testing.T) {
	b := usual(t)
	far, label := b.constant(api.MaxDefs-1), b.prefix(api.MaxLabels-1, b.store.Nil())
	b.isForm("a constant without a definition", far, far)
	b.isForm("a label without a name", b.sum(far, label), b.sum(label, far))
	b.isForm("a set of such names", b.res(b.sum(far, far), api.MaxNames-1), b.res(far, api.MaxNames-1))
}

func TestP1802LongSums(t *testing.T) {
	b := usual(t)
	full := b.chain(1, api.MaxEdges)
	over := append(slices.Clone(full), b.constant(0))
	want := b.joined(api.TermSum, full)
	backward := slices.Clone(full)
	slices.Reverse(backward)
	mixed := slices.Clone(full)
	n := &numbers{state: 5}
	for i := range mixed {
		j := n.below(i + 1)
		mixed[i], mixed[j] = mixed[j], mixed[i]
	}
	for what, list := range map[string][]int{"as it is": full, "backward": backward, "mixed": mixed} {
		soon(t, what, func() {
			b.isForm(what+", to the left", b.joined(api.TermSum, list), want)
			b.isForm(what+", to the right", b.joinedRight(api.TermSum, list), want)
		})
	}
	b.isForm("with 0", b.sum(b.sum(want, b.store.Nil()), b.store.Nil()), want)
	b.isForm("with what stands there", b.sum(b.joinedRight(api.TermSum, backward), full[77]), want)
	b.isForm("twice", b.sum(b.res(want), b.ren(b.joinedRight(api.TermSum, full))), want)
	b.isForm("with what comes to a form that stands there", b.sum(want, b.prefix(1, b.res(full[0]))), want)
	b.isForm("below a prefix, beside another", b.sum(b.prefix(1, want), b.constant(0)), b.sum(b.prefix(1, want), b.constant(0)))

	tooLong := b.joined(api.TermSum, over)
	b.refuses("one more", tooLong, api.ErrLong)
	b.refuses("one more, to the right", b.joinedRight(api.TermSum, over), api.ErrLong)
	b.refuses("one more, opened", b.sum(b.res(want), b.ren(b.constant(0), api.Pair{Old: 4, New: 4})), api.ErrLong)
	b.refuses("below a prefix", b.prefix(0, tooLong), api.ErrLong)
	b.refuses("in a restriction", b.res(tooLong, 1), api.ErrLong)
	b.refuses("in a renaming", b.ren(tooLong), api.ErrLong)
	b.refuses("in a parallel", b.par(b.store.Nil(), tooLong), api.ErrLong)
	b.refuses("in a sum, below a prefix", b.sum(b.store.Nil(), b.prefix(0, tooLong)), api.ErrLong)
	b.isForm("a parallel of sums", b.par(want, want), b.par(want, want))
}

func TestP1802LongParallels(t *testing.T) {
	b := usual(t)
	x := b.prefix(1, b.store.Nil())
	want := b.joined(api.TermPar, slices.Repeat([]int{x}, api.MaxEdges))
	b.isForm("as many as may be", b.copies(x, api.MaxEdges), want)
	b.isForm("with 0", b.par(b.store.Nil(), b.par(b.copies(x, api.MaxEdges), b.doubled(api.TermPar, b.store.Nil(), 9))), want)
	half := b.copies(x, api.MaxEdges/2)
	b.isForm("two halves", b.par(half, b.res(half)), want)
	b.isForm("of sums", b.copies(b.sum(x, x), api.MaxEdges), want)

	b.refuses("one more", b.copies(x, api.MaxEdges+1), api.ErrLong)
	b.refuses("one more, other", b.par(b.copies(x, api.MaxEdges), b.constant(0)), api.ErrLong)
	b.refuses("one more, opened", b.par(b.constant(0), b.res(b.copies(x, api.MaxEdges))), api.ErrLong)
	b.refuses("two halves and one", b.par(b.sum(half, half), b.par(b.ren(half), x)), api.ErrLong)
	b.refuses("below a prefix, in a sum", b.sum(b.constant(0), b.prefix(0, b.copies(x, api.MaxEdges+1))), api.ErrLong)
	b.isForm("a sum of two", b.sum(want, b.constant(0)), b.sum(want, b.constant(0)))
	b.isForm("a sum of the same", b.sum(want, b.copies(x, api.MaxEdges)), want)

	chain := b.chain(2, api.MaxEdges)
	slices.Reverse(chain)
	list := b.joinedRight(api.TermPar, chain)
	slices.Reverse(chain)
	b.isForm("unlike ones", list, b.joined(api.TermPar, chain))
	b.refuses("unlike ones, and one more", b.par(list, chain[0]), api.ErrLong)
}

func TestP1802VeryManyParts(t *testing.T) {
	b := usual(t)
	x := b.prefix(1, b.store.Nil())
	soon(t, "doubling", func() {
		b.isForm("a sum", b.doubled(api.TermSum, x, 1000), x)
		b.isForm("a sum of sums", b.doubled(api.TermSum, b.sum(b.constant(0), x), 1000), b.sum(x, b.constant(0)))
		b.isForm("a sum of 0", b.doubled(api.TermSum, b.store.Nil(), 1000), b.store.Nil())
		b.isForm("a parallel of 0", b.doubled(api.TermPar, b.store.Nil(), 1000), b.store.Nil())
		b.isForm("a parallel of what comes to 0", b.doubled(api.TermPar, b.res(b.store.Nil(), 2), 1000), b.store.Nil())
		b.refuses("a parallel", b.doubled(api.TermPar, x, 1000), api.ErrLong)
		b.refuses("a parallel below a prefix", b.prefix(0, b.doubled(api.TermPar, x, 14)), api.ErrLong)
		id := b.store.Nil()
		for range 500 {
			id = b.sum(b.prefix(1, b.par(id, b.store.Nil())), b.prefix(1, b.par(b.store.Nil(), id)))
		}
		b.isForm("two ways to one form", id, b.chain(1, 500)[499])
		id = x
		for range 20000 {
			id = b.par(b.par(b.store.Nil(), id), b.store.Nil())
		}
		b.isForm("0 around, then doubled", b.doubled(api.TermPar, id, 13), b.joined(api.TermPar, slices.Repeat([]int{x}, 1<<13)))
	})
}

func TestP1802Deep(t *testing.T) {
	b := usual(t)
	p, none := b.constant(0), b.store.Nil()
	swap := []api.Pair{{Old: 0, New: 1}, {Old: 1, New: 0}}
	wraps := map[string]struct {
		wrap, want func(id int) int
	}{
		"prefixes":            {func(id int) int { return b.prefix(1, id) }, func(id int) int { return b.prefix(1, id) }},
		"sums left":           {func(id int) int { return b.sum(id, none) }, nil},
		"sums right":          {func(id int) int { return b.sum(p, id) }, nil},
		"parallels left":      {func(id int) int { return b.par(id, none) }, nil},
		"parallels right":     {func(id int) int { return b.par(none, id) }, nil},
		"sums and parallels":  {func(id int) int { return b.sum(none, b.par(id, none)) }, nil},
		"restrictions":        {func(id int) int { return b.res(id, 0) }, func(id int) int { return b.res(id, 0) }},
		"empty restrictions":  {func(id int) int { return b.res(id) }, nil},
		"renamings":           {func(id int) int { return b.ren(id, swap...) }, func(id int) int { return b.ren(id, swap...) }},
		"empty renamings":     {func(id int) int { return b.ren(id, api.Pair{Old: 3, New: 3}) }, nil},
		"a sum in a prefix":   {func(id int) int { return b.sum(b.constant(1), b.prefix(1, id)) }, func(id int) int { return b.sum(b.prefix(1, id), b.constant(1)) }},
		"sums of parallels":   {func(id int) int { return b.sum(b.par(b.constant(1), id), none) }, nil},
		"a sum in a parallel": {func(id int) int { return b.par(p, b.sum(b.constant(1), id)) }, func(id int) int { return b.par(b.sum(id, b.constant(1)), p) }},
	}
	for what, c := range wraps {
		id, want, depth := p, p, 1<<16
		if what == "sums of parallels" {
			depth = 2000
		}
		for range depth {
			id = c.wrap(id)
			if c.want != nil {
				want = c.want(want)
			}
		}
		soon(t, what, func() {
			if what == "sums of parallels" {
				want = b.joined(api.TermPar, append([]int{p}, slices.Repeat([]int{b.constant(1)}, depth)...))
			}
			b.isForm(what, id, want)
		})
	}
}

func TestP1802Errors(t *testing.T) {
	b := usual(t)
	size := b.store.Size()
	for _, id := range []int{-1, size, size + 1, least, greatest} {
		b.refuses(fmt.Sprint("the term ", id), id, api.ErrIndex)
		form, err := normal.Of(nil, id)
		ownFault(t, fmt.Sprint("Of nil: ", id), err, api.ErrArg)
		if form != 0 {
			t.Errorf("Of nil: %d beside an error", form)
		}
	}
	b.isForm("the last term", size-1, size-1)
	_, err := normal.Of(&source.Program{}, 0)
	ownFault(t, "a zero Program", err, api.ErrIndex)
	tooLong := b.copies(b.constant(0), api.MaxEdges+1)
	for what, call := range map[string]func() error{
		"ErrIndex": func() error { _, err := normal.Of(b.program, -1); return err },
		"ErrArg":   func() error { _, err := normal.Of(nil, 0); return err },
		"ErrLong":  func() error { _, err := normal.Of(b.program, tooLong); return err },
	} {
		if call() == call() {
			t.Errorf("%s is told twice", what)
		}
	}
	b.isForm("another one behind an error", b.sum(0, 0), 0)
}

func TestP1803Same(t *testing.T) {
	b := usual(t)
	for _, c := range []struct {
		x, y string
		want bool
	}{
		{"a.0 + b.P", "b.P + (0 + a.0)", true},
		{"a.0 + b.P", "b.P", false},
		{"P | Q", "Q | P", true},
		{"P | (Q | a.0)", "(a.0 | P) | Q", true},
		{"P + (Q + a.0)", "(a.0 + P) + Q", true},
		{"P | P", "P", false},
		{"P + P", "P", true},
		{"P | 0", "P", true},
		{"0", "0", true},
		{"0", "P", false},
		{"a.0 + 0", "0 | a.0", true},
		{"P + Q", "P | Q", false},
		{"a.(P + P)", "a.P", true},
		{"P\\{a}", "P\\{b}", false},
		{"P\\{a}", "P", false},
		{"P", "a.P", false},
		{"a.0 | b.0", "a.b.0 + b.a.0", false},
	} {
		x, y := b.read(c.x), b.read(c.y)
		if b.same(x, y) != c.want || b.same(y, x) != c.want {
			t.Errorf("Same(%s, %s) is not %v", c.x, c.y, c.want)
		}
	}
	n := &numbers{state: 1803}
	for range 3000 {
		x, y := b.grown(n, 1+n.below(6)), b.grown(n, 1+n.below(6))
		f, _ := formOf(b.tree(x))
		g, _ := formOf(b.tree(y))
		if got, want := b.same(x, y), order(f, g) == 0; got != want {
			t.Fatalf("Same(%s, %s): %v", b.tree(x).shown(), b.tree(y).shown(), got)
		}
	}
}

func TestP1803Errors(t *testing.T) {
	b := usual(t)
	tooLong := b.copies(b.constant(0), api.MaxEdges+1)
	for what, c := range map[string]struct {
		p         *source.Program
		id, other int
		want      error
	}{
		"nil":                     {nil, 0, 0, api.ErrArg},
		"nil, no terms":           {nil, -1, greatest, api.ErrArg},
		"a zero Program":          {&source.Program{}, 0, 0, api.ErrIndex},
		"no first term":           {b.program, -1, 0, api.ErrIndex},
		"no second term":          {b.program, 0, greatest, api.ErrIndex},
		"neither":                 {b.program, least, b.store.Size(), api.ErrIndex},
		"too long":                {b.program, tooLong, 0, api.ErrLong},
		"the second too long":     {b.program, 0, tooLong, api.ErrLong},
		"too long, then no term":  {b.program, tooLong, -1, api.ErrLong},
		"no term, then too long":  {b.program, -1, tooLong, api.ErrIndex},
		"too long both":           {b.program, tooLong, tooLong, api.ErrLong},
		"the same term, far away": {b.program, greatest, greatest, api.ErrIndex},
	} {
		is, err := normal.Same(c.p, c.id, c.other)
		ownFault(t, what, err, c.want)
		if is {
			t.Errorf("%s: true beside an error", what)
		}
	}
}

// alike tells whether two terms are strongly bisimilar; false beside, if a system is too great.
func (b *bench) alike(id, other int) (bool, bool) {
	b.Helper()
	x, err := generate.From(b.program, id)
	y, err2 := generate.From(b.program, other)
	if err != nil || err2 != nil {
		return false, false
	}
	is, err := quotient.Same(x.System(), y.System())
	return is, err == nil
}

func TestP1804(t *testing.T) {
	b := benchOf(t, "P = a.P + b.0\nQ = 'b.(P | a.0) + 'c.0\n")
	n := &numbers{state: 1804}
	told := 0
	for range 2500 {
		id := b.grown(n, 1+n.below(10))
		form := b.of(id)
		b.isForm("a form", form, form)
		is, both := b.alike(id, form)
		if both && !is {
			t.Fatalf("%s is not bisimilar to its form %s", b.print(id), b.print(form))
		}
		if both {
			told++
		}
	}
	if told < 2000 {
		t.Errorf("only %d terms have systems", told)
	}
}

func TestP1804Laws(t *testing.T) {
	b := benchOf(t, "P = a.P + b.0\nQ = 'b.(P | a.0) + 'c.0\n")
	n := &numbers{state: 8}
	for range 500 {
		x, y, z := b.grown(n, 1+n.below(8)), b.grown(n, 1+n.below(8)), b.grown(n, 1+n.below(8))
		for what, pair := range map[string][2]int{
			"sums, the other way round":      {b.sum(x, y), b.sum(y, x)},
			"sums, grouped":                  {b.sum(x, b.sum(y, z)), b.sum(b.sum(x, y), z)},
			"sums with 0":                    {b.sum(x, 0), x},
			"sums of one":                    {b.sum(x, x), x},
			"parallels, the other way round": {b.par(x, y), b.par(y, x)},
			"parallels, grouped":             {b.par(x, b.par(y, z)), b.par(b.par(x, y), z)},
			"parallels with 0":               {b.par(0, x), x},
		} {
			if !b.same(pair[0], pair[1]) {
				t.Fatalf("%s: %s and %s are not the same", what, b.print(pair[0]), b.print(pair[1]))
			}
			// Within a context, too.
			if in, at := b.prefix(1, b.res(b.sum(pair[0], z), 1)), b.prefix(1, b.res(b.sum(z, pair[1]), 1)); !b.same(in, at) {
				t.Fatalf("%s, within: %s and %s are not the same", what, b.print(in), b.print(at))
			}
		}
	}
}

func TestSideBySide(t *testing.T) {
	told := make([]string, 8)
	var all sync.WaitGroup
	for i := range told {
		all.Add(1)
		go func() {
			defer all.Done()
			b := usual(t)
			n := &numbers{state: 9}
			for range 200 {
				form, _ := normal.Of(b.program, b.grown(n, 30))
				text, _ := b.program.Print(form)
				told[i] += text + "\n"
			}
		}()
	}
	all.Wait()
	for _, text := range told {
		if text != told[0] {
			t.Error("programs side by side tell other forms")
		}
	}
}
