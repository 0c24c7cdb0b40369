package normal_test

import (
	"testing"

	"semblance/api"
	"semblance/normal"
	"semblance/source"
	"semblance/term"
)

const (
	least    = -1 << 63
	greatest = 1<<63 - 1
)

// bench has a program and its store.
type bench struct {
	testing.TB
	program *source.Program
	store   *term.Store
}

// benchOf makes the bench of a text that is taken.
func benchOf(t testing.TB, text string) *bench {
	t.Helper()
	p, err := source.Parse(text)
	if err != nil {
		t.Fatal(err)
	}
	return &bench{TB: t, program: p, store: p.Store()}
}

// usual makes the bench of two definitions, whose constants P and Q are 0 and 1; the names a, b, c are 0, 1, 2.
func usual(t testing.TB) *bench {
	t.Helper()
	return benchOf(t, "P = a.P\nQ = b.Q + 'c.0\n")
}

// read tells the term of a text.
func (b *bench) read(text string) int {
	b.Helper()
	id, err := b.program.Term(text)
	if err != nil {
		b.Fatal(text, err)
	}
	return id
}

// print tells the text of a term.
func (b *bench) print(id int) string {
	b.Helper()
	text, err := b.program.Print(id)
	if err != nil {
		b.Fatal(id, err)
	}
	return text
}

func (b *bench) put(x api.Term) int {
	b.Helper()
	id, err := b.store.Put(x)
	if err != nil {
		b.Fatal(x, err)
	}
	return id
}

func (b *bench) prefix(label, part int) int {
	b.Helper()
	return b.put(api.Term{Kind: api.TermPrefix, Label: label, A: part})
}

func (b *bench) sum(left, right int) int {
	b.Helper()
	return b.put(api.Term{Kind: api.TermSum, A: left, B: right})
}

func (b *bench) par(left, right int) int {
	b.Helper()
	return b.put(api.Term{Kind: api.TermPar, A: left, B: right})
}

func (b *bench) res(part int, names ...int) int {
	b.Helper()
	return b.put(api.Term{Kind: api.TermRes, A: part, Names: names})
}

func (b *bench) ren(part int, pairs ...api.Pair) int {
	b.Helper()
	return b.put(api.Term{Kind: api.TermRen, A: part, Pairs: pairs})
}

func (b *bench) constant(k int) int {
	b.Helper()
	return b.put(api.Term{Kind: api.TermConst, A: k})
}

// tree tells a term as a tree.
func (b *bench) tree(id int) *tree {
	b.Helper()
	x, err := b.store.Get(id)
	if err != nil {
		b.Fatal(id, err)
	}
	t := &tree{kind: x.Kind, label: x.Label, names: x.Names, pairs: x.Pairs}
	switch x.Kind {
	case api.TermPrefix, api.TermRes, api.TermRen:
		t.parts = []*tree{b.tree(x.A)}
	case api.TermSum, api.TermPar:
		t.parts = []*tree{b.tree(x.A), b.tree(x.B)}
	case api.TermConst:
		t.number = x.A
	}
	return t
}

// of tells the normal form of a term that has one.
func (b *bench) of(id int) int {
	b.Helper()
	form, err := normal.Of(b.program, id)
	if err != nil {
		b.Fatal(id, err)
	}
	return form
}

// order tells the order of two terms of the store.
func (b *bench) order(id, other int) int {
	b.Helper()
	o, err := normal.Order(b.program, id, other)
	if err != nil {
		b.Fatal(id, other, err)
	}
	return o
}

// same tells whether two terms have one normal form.
func (b *bench) same(id, other int) bool {
	b.Helper()
	is, err := normal.Same(b.program, id, other)
	if err != nil {
		b.Fatal(id, other, err)
	}
	return is
}

// sets and renamings are those that terms of tests have.
func sets() [][]int { return [][]int{{}, {0}, {0, 1}, {1}, {0, 2}} }

func renamings() [][]api.Pair {
	return [][]api.Pair{
		{},
		{{Old: 0, New: 0}},
		{{Old: 0, New: 1}},
		{{Old: 0, New: 1}, {Old: 1, New: 1}},
		{{Old: 0, New: 0}, {Old: 1, New: 0}},
		{{Old: 0, New: 1}, {Old: 1, New: 0}},
		{{Old: 1, New: 0}},
		{{Old: 0, New: 0}, {Old: 1, New: 1}},
	}
}

// atoms tells the terms without parts.
func (b *bench) atoms() []int {
	b.Helper()
	return []int{b.store.Nil(), b.constant(0), b.constant(1)}
}

// over tells the terms of one part or two, each of those parts.
func (b *bench) over(parts []int) []int {
	b.Helper()
	var l []int
	for _, x := range parts {
		l = append(l, b.around(x)...)
		for _, y := range parts {
			l = append(l, b.sum(x, y), b.par(x, y))
		}
	}
	return l
}

// around tells the terms of one part.
func (b *bench) around(part int) []int {
	b.Helper()
	l := []int{b.prefix(api.Tau, part), b.prefix(1, part), b.prefix(2, part)}
	for _, names := range sets() {
		l = append(l, b.res(part, names...))
	}
	for _, pairs := range renamings() {
		l = append(l, b.ren(part, pairs...))
	}
	return l
}

// numbers tells numbers that look as if by chance, the same ones each time.
type numbers struct{ state uint64 }

func (n *numbers) below(bound int) int {
	n.state = n.state*6364136223846793005 + 1442695040888963407
	return int(n.state>>33) % bound
}

// grown tells a term of so many nodes or few more, by chance: mostly lists, since these have the most to tell.
func (b *bench) grown(n *numbers, nodes int) int {
	b.Helper()
	if nodes <= 1 {
		return []int{b.store.Nil(), b.constant(n.below(2)), b.prefix(n.below(3), b.store.Nil())}[n.below(3)]
	}
	left := 1 + n.below(nodes-1)
	switch n.below(9) {
	case 0, 1, 2:
		return b.sum(b.grown(n, left), b.grown(n, nodes-left))
	case 3, 4, 5:
		return b.par(b.grown(n, left), b.grown(n, nodes-left))
	case 6:
		return b.res(b.grown(n, nodes-1), sets()[n.below(len(sets()))]...)
	case 7:
		return b.ren(b.grown(n, nodes-1), renamings()[n.below(len(renamings()))]...)
	}
	return b.prefix(n.below(3), b.grown(n, nodes-1))
}

// chain tells the terms of so many prefixes of one label and fewer, the shortest one first.
func (b *bench) chain(label, length int) []int {
	b.Helper()
	l, id := []int{}, b.store.Nil()
	for range length {
		id = b.prefix(label, id)
		l = append(l, id)
	}
	return l
}

// joined tells the sums or the parallels of a list, grouped to the left.
func (b *bench) joined(kind int, list []int) int {
	b.Helper()
	whole := list[0]
	for _, next := range list[1:] {
		whole = b.put(api.Term{Kind: kind, A: whole, B: next})
	}
	return whole
}

// joinedRight tells those grouped to the right.
func (b *bench) joinedRight(kind int, list []int) int {
	b.Helper()
	whole := list[len(list)-1]
	for i := len(list) - 2; i >= 0; i-- {
		whole = b.put(api.Term{Kind: kind, A: list[i], B: whole})
	}
	return whole
}

// doubled tells a term put beside itself, so many times.
func (b *bench) doubled(kind, id, times int) int {
	b.Helper()
	for range times {
		id = b.put(api.Term{Kind: kind, A: id, B: id})
	}
	return id
}

// copies tells a parallel of a term so many times, from few terms of the store.
func (b *bench) copies(id, times int) int {
	b.Helper()
	whole := b.store.Nil()
	for ; times > 0; times /= 2 {
		if times%2 == 1 {
			whole = b.par(whole, id)
		}
		id = b.par(id, id)
	}
	return whole
}
