package sos_test

import (
	"slices"
	"strconv"
	"strings"
	"testing"

	"semblance/api"
	"semblance/sos"
)

// shown tells a term as a text with brackets around all, names by their numbers; of two terms two texts.
func (b *bench) shown(id int) string {
	b.Helper()
	x, err := b.store.Get(id)
	if err != nil {
		b.Fatal(id, err)
	}
	switch x.Kind {
	case api.TermPrefix:
		return prefixText(x.Label, b.shown(x.A))
	case api.TermSum:
		return "(" + b.shown(x.A) + "+" + b.shown(x.B) + ")"
	case api.TermPar:
		return parText(b.shown(x.A), b.shown(x.B))
	case api.TermRes:
		return resText(b.shown(x.A), x.Names)
	case api.TermRen:
		return renText(b.shown(x.A), x.Pairs)
	case api.TermConst:
		return "C" + strconv.Itoa(x.A)
	}
	return "0"
}

func prefixText(label int, part string) string { return strconv.Itoa(label) + "." + part }
func parText(left, right string) string        { return "(" + left + "|" + right + ")" }

func resText(part string, names []int) string {
	for _, name := range names {
		part += "-" + strconv.Itoa(name)
	}
	return "(" + part + "-)"
}

func renText(part string, pairs []api.Pair) string {
	for _, pair := range pairs {
		part += ":" + strconv.Itoa(pair.Old) + ">" + strconv.Itoa(pair.New)
	}
	return "(" + part + ":)"
}

// move is a step to a term as shown.
type move struct {
	label int
	to    string
}

// moves derives a term's steps by the words of the document, without a store: labels by their arithmetic, terms as texts.
func (b *bench) moves(id int) []move {
	b.Helper()
	x, _ := b.store.Get(id)
	var l []move
	switch x.Kind {
	case api.TermPrefix:
		l = []move{{x.Label, b.shown(x.A)}}
	case api.TermSum:
		l = append(b.moves(x.A), b.moves(x.B)...)
	case api.TermPar:
		l = met(b.moves(x.A), b.moves(x.B), b.shown(x.A), b.shown(x.B))
	case api.TermRes:
		for _, m := range b.moves(x.A) {
			if m.label == 0 || !slices.Contains(x.Names, (m.label-1)/2) {
				l = append(l, move{m.label, resText(m.to, x.Names)})
			}
		}
	case api.TermRen:
		for _, m := range b.moves(x.A) {
			l = append(l, move{renamed(x.Pairs, m.label), renText(m.to, x.Pairs)})
		}
	case api.TermConst:
		body, err := b.program.Body(x.A)
		if err != nil {
			b.Fatal(err)
		}
		l = b.moves(body)
	}
	var once []move
	for _, m := range l {
		if !slices.Contains(once, m) {
			once = append(once, m)
		}
	}
	return once
}

func met(ls, rs []move, left, right string) []move {
	var out []move
	for _, l := range ls {
		out = append(out, move{l.label, parText(l.to, right)})
	}
	for _, r := range rs {
		out = append(out, move{r.label, parText(left, r.to)})
	}
	for _, l := range ls {
		for _, r := range rs {
			low, high := min(l.label, r.label), max(l.label, r.label)
			if low%2 == 1 && high == low+1 {
				out = append(out, move{0, parText(l.to, r.to)})
			}
		}
	}
	return out
}

func renamed(pairs []api.Pair, label int) int {
	for _, pair := range pairs {
		if label == 2*pair.Old+1 || label == 2*pair.Old+2 {
			return label + 2*(pair.New-pair.Old)
		}
	}
	return label
}

// agree fails, unless the steps of a term are its moves.
func (b *bench) agree(id int) {
	b.Helper()
	var got []move
	for _, s := range b.steps(id) {
		got = append(got, move{s.Label, b.shown(s.To)})
	}
	if want := b.moves(id); !slices.Equal(got, want) {
		b.Errorf("%s: %v, not %v", b.shown(id), got, want)
	}
}

// grown puts all sums and parallels of two terms of a list, and all other terms over one.
func (b *bench) grown(parts []int) []int {
	b.Helper()
	var l []int
	for _, x := range parts {
		for label := range 5 {
			l = append(l, b.prefix(label, x))
		}
		for _, names := range [][]int{{}, {0}, {1}, {0, 1}, {2}} {
			l = append(l, b.res(x, names...))
		}
		for _, pairs := range [][]api.Pair{{}, {{Old: 0, New: 1}}, {{Old: 0, New: 1}, {Old: 1, New: 0}}, {{Old: 1, New: 0}}, {{Old: 1, New: 2}, {Old: 2, New: 0}}, {{Old: 0, New: 0}}} {
			l = append(l, b.ren(x, pairs...))
		}
		for _, y := range parts {
			l = append(l, b.sum(x, y), b.par(x, y))
		}
	}
	return l
}

// some tells each n-th of a list, the first one too.
func some(l []int, n int) []int {
	var out []int
	for i := 0; i < len(l); i += n {
		out = append(out, l[i])
	}
	return out
}

const several = `P = a.P + 'b.0
Q = P | b.0
R = (Q | 'a.R)\{b} + tau.R
S = Q[b/a, a/b] | T
T = 'a.b.T + tau.0
`

// manyTerms puts terms of all kinds in all places, three deep and more.
func (b *bench) manyTerms() []int {
	b.Helper()
	base := []int{0, b.read("P"), b.read("Q"), b.read("R"), b.read("S"), b.read("T"), b.read("a.0"), b.read("'a.0"), b.read("tau.P")}
	one := b.grown(base)
	two := b.grown(some(one, 11))
	three := b.grown(some(two, 97))
	return slices.Concat(base, one, two, three)
}

func TestP501AsTheRulesDerive(t *testing.T) {
	b := benchOf(t, several)
	terms := b.manyTerms()
	if len(terms) < 2000 {
		t.Errorf("only %d terms", len(terms))
	}
	for _, id := range terms {
		b.agree(id)
	}
}

// TestP501AlongSteps goes where steps lead, and from there on: terms that were made by steps have theirs.
func TestP501AlongSteps(t *testing.T) {
	b := benchOf(t, several)
	queue := []int{b.read("R | S"), b.read(`(S | T | Q)\{a}`)}
	seen := map[int]bool{}
	for len(queue) > 0 && len(seen) < 500 {
		id := queue[0]
		queue = queue[1:]
		if seen[id] {
			continue
		}
		seen[id] = true
		b.agree(id)
		for _, s := range b.steps(id) {
			queue = append(queue, s.To)
		}
	}
	if len(seen) < 100 {
		t.Errorf("only %d terms", len(seen))
	}
}

// answers tells the steps of terms that are named by their texts, asked in the order of which; in the order of texts.
func answers(t *testing.T, texts []string, which []int, between func(b *bench)) []string {
	b := benchOf(t, several)
	var ids []int
	for _, text := range texts {
		ids = append(ids, b.read(text))
	}
	out := make([]string, len(texts))
	for _, i := range which {
		between(b)
		out[i] = b.told(ids[i])
	}
	return out
}

func TestP504WhateverWasAsked(t *testing.T) {
	texts := []string{"P", "Q", "R", "S", "T", "0", "P | Q", "Q | P", `(R | S)\{a}`, `(R | S)\{a} + T`, "(Q | 'a.R)", "S[c/a]", "(T | T) + T", "a.T | T", "tau.(R | S)", "R | S", "P + P", "Q + P + Q"}
	var forward []int
	for i := range texts {
		forward = append(forward, i)
	}
	nothing := func(*bench) {}
	want := answers(t, texts, forward, nothing)
	backward := slices.Clone(forward)
	slices.Reverse(backward)
	shuffled := slices.Clone(forward)
	for i := range shuffled {
		j := i * 7 % len(shuffled)
		shuffled[i], shuffled[j] = shuffled[j], shuffled[i]
	}
	twice := slices.Concat(backward, shuffled, forward)
	refusals := func(b *bench) {
		b.refuses("one too many", b.par(b.read("S"), b.crowd(0, api.MaxSteps)), api.ErrSteps)
		b.refuses("unknown", b.par(b.read("R"), b.constant(50)), api.ErrUnknown)
		b.refuses("not there", -1, api.ErrIndex)
	}
	for what, which := range map[string][]int{"forward": forward, "backward": backward, "shuffled": shuffled, "twice": twice} {
		for how, between := range map[string]func(*bench){"": nothing, " with refusals": refusals} {
			if got := answers(t, texts, which, between); !slices.Equal(got, want) {
				t.Errorf("%s%s: %s, not %s", what, how, strings.Join(got, "\n"), strings.Join(want, "\n"))
			}
		}
	}
}

func TestP504SameNumbers(t *testing.T) {
	b := benchOf(t, several)
	terms := b.manyTerms()
	want := map[int][]api.Step{}
	for _, id := range terms {
		want[id] = b.steps(id)
	}
	other, err := sos.New(b.program)
	if err != nil {
		t.Fatal(err)
	}
	slices.Reverse(terms)
	for _, id := range terms {
		for _, r := range []*sos.Rules{b.rules, other} {
			got, err := r.Steps(id)
			if err != nil || !slices.Equal(got, want[id]) {
				t.Errorf("%s: %v, %v, not %v", b.shown(id), got, err, want[id])
			}
		}
	}
}
