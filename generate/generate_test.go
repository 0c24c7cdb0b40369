package generate_test

import (
	"errors"
	"fmt"
	"reflect"
	"slices"
	"strings"
	"testing"

	"semblance/api"
	"semblance/generate"
	"semblance/sos"
	"semblance/source"
	"semblance/term"
)

const (
	least    = -1 << 63
	greatest = 1<<63 - 1
)

// refused fails, unless err is a chain of faults of those layers that ends in just want, without a place, and the result beside it is zero.
func refused(t *testing.T, what string, result any, err, want error, layers ...string) {
	t.Helper()
	if !reflect.ValueOf(result).IsZero() {
		t.Errorf("%s: %.80v beside an error", what, result)
	}
	if !errors.Is(err, want) {
		t.Errorf("%s: %v, not %v", what, err, want)
	}
	for _, layer := range layers {
		f, ok := err.(*api.Fault)
		if !ok || f.Layer != layer || f.Line != 0 || f.Col != 0 {
			t.Errorf("%s: %+v, not a fault of %s", what, err, layer)
			return
		}
		err = f.Err
	}
	if err != want {
		t.Errorf("%s: the chain of faults ends in %v, not %v", what, err, want)
	}
}

// bench has a program and its store.
type bench struct {
	*testing.T
	program *source.Program
	store   *term.Store
}

// benchOf makes the bench of a text that is taken.
func benchOf(t *testing.T, text string) *bench {
	t.Helper()
	p, err := source.Parse(text)
	if err != nil {
		t.Fatal(err)
	}
	return &bench{T: t, program: p, store: p.Store()}
}

// read tells the term of a text.
func (b *bench) read(text string) int {
	b.Helper()
	id, err := b.program.Term(text)
	if err != nil {
		b.Fatal(text, err)
	}
	return id
}

// print tells the text of a term.
func (b *bench) print(id int) string {
	b.Helper()
	text, err := b.program.Print(id)
	if err != nil {
		b.Fatal(id, err)
	}
	return text
}

func (b *bench) put(x api.Term) int {
	b.Helper()
	id, err := b.store.Put(x)
	if err != nil {
		b.Fatal(x, err)
	}
	return id
}

func (b *bench) prefix(label, part int) int {
	b.Helper()
	return b.put(api.Term{Kind: api.TermPrefix, Label: label, A: part})
}

func (b *bench) sum(left, right int) int {
	b.Helper()
	return b.put(api.Term{Kind: api.TermSum, A: left, B: right})
}

func (b *bench) constant(k int) int {
	b.Helper()
	return b.put(api.Term{Kind: api.TermConst, A: k})
}

// fan puts a sum of n prefixes with rising labels, from 1 on, of the same part.
func (b *bench) fan(n, part int) int {
	b.Helper()
	id := b.prefix(1, part)
	for label := 2; label <= n; label++ {
		id = b.sum(id, b.prefix(label, part))
	}
	return id
}

// row puts a term within so many fans of n prefixes: n edges a state, but for the last one.
func (b *bench) row(states, n, last int) int {
	b.Helper()
	id := last
	for range states {
		id = b.fan(n, id)
	}
	return id
}

// from makes a space that can be made.
func (b *bench) from(id int) *generate.Space {
	b.Helper()
	s, err := generate.From(b.program, id)
	if err != nil || s == nil {
		b.Fatalf("From(%d): %v, %v", id, s, err)
	}
	return s
}

// refuses fails, unless From answers that error of a term.
func (b *bench) refuses(what string, id int, want error, layers ...string) {
	b.Helper()
	s, err := generate.From(b.program, id)
	refused(b.T, what, s, err, want, layers...)
}

// measures fails, unless the space of a term has so many states and edges.
func (b *bench) measures(what string, id, states, edges int) {
	b.Helper()
	s, err := generate.From(b.program, id)
	if err != nil || s.Size() != states || len(s.System().Edges) != edges {
		b.Errorf("%s: %d states, %d edges, %v, not %d, %d", what, s.Size(), len(s.System().Edges), err, states, edges)
	}
}

// term tells the term of a state that is there.
func (b *bench) term(s *generate.Space, state int) int {
	b.Helper()
	id, err := s.Term(state)
	if err != nil {
		b.Fatal(state, err)
	}
	return id
}

// path tells the path of a state that is there.
func (b *bench) path(s *generate.Space, state int) []api.Step {
	b.Helper()
	l, err := s.Path(state)
	if err != nil {
		b.Fatal(state, err)
	}
	return l
}

// edges makes edges of three numbers each.
func edges(x ...int) []api.Edge {
	var l []api.Edge
	for ; len(x) > 0; x = x[3:] {
		l = append(l, api.Edge{From: x[0], Label: x[1], To: x[2]})
	}
	return l
}

// alike tells whether two systems are the same; nil and an empty list are.
func alike(a, b api.System) bool {
	return a.States == b.States && a.Labels == b.Labels && a.Start == b.Start && slices.Equal(a.Edges, b.Edges)
}

// unfolded has what the words of the document say of a term's space.
type unfolded struct {
	terms []int
	edges []api.Edge
}

// unfold makes it out of the steps that the rules tell; a term is looked for among all states.
func (b *bench) unfold(id int) unfolded {
	b.Helper()
	rules, err := sos.New(b.program)
	if err != nil {
		b.Fatal(err)
	}
	u := unfolded{terms: []int{id}}
	for from := 0; from < len(u.terms); from++ {
		steps, err := rules.Steps(u.terms[from])
		if err != nil || from > api.MaxStates {
			b.Fatalf("%s: %d terms, %v", b.print(id), len(u.terms), err)
		}
		for _, step := range steps {
			if !slices.Contains(u.terms, step.To) {
				u.terms = append(u.terms, step.To)
			}
			u.edges = append(u.edges, api.Edge{From: from, Label: step.Label, To: slices.Index(u.terms, step.To)})
		}
	}
	return u
}

const several = `P = a.P + 'b.0
Q = P | b.0
R = (Q | 'a.R2)\{b} + tau.R
R2 = a.b.0 + 'b.R2
S = Q[b/a, a/b] | T
T = 'a.b.T + tau.0
Z = 0
L = tau.L
B = in.B1
B1 = 'out.B + in.B2
B2 = 'out.B1
C = in.'c.C
D = c.'out.D
`

// texts tells terms of the program above whose spaces are small.
func texts() []string {
	return []string{
		"0", "P", "Q", "R", "S", "T", "Z", "L", "B", "a.0", "tau.0", "a.a.0", "a.b.0 + b.a.0", "a.0 + a.0", "0 + 0", "0 | 0", "a.0 | 0", "a.0 | 'a.0", "L | L", "P + T", "a.P + a.Q + b.Z",
		"P | Q", "Q | P | T", "S + R", "R | S", `(C | D)\{c}`, `(C | D | B)\{c}`, `(B | B)[in/out]`, `(R | S)\{a}`, `(R | S)\{a, b}[b/a]`, "P[b/a] | Q", `(P | P | P)\{b}`, "a.b.0 | a.b.0 | b.a.0", "(a.0 | b.0) + b.(a.0 | 0)", "tau.L + L", `P\{a}`, `P\{a, b}`, "T[new/b]",
	}
}

func TestP601Examples(t *testing.T) {
	b := benchOf(t, "P = a.P + 'b.0\nQ = P | b.0")
	s := b.from(b.read("Q"))
	want := api.System{States: 5, Labels: 5, Edges: edges(0, 1, 1, 0, 4, 2, 0, 3, 3, 0, 0, 4, 1, 1, 1, 1, 4, 2, 1, 3, 3, 1, 0, 4, 2, 3, 4, 3, 1, 3, 3, 4, 4)}
	if got := s.System(); s.Size() != 5 || !alike(got, want) {
		t.Errorf("%d states, %v, not %v", s.Size(), got, want)
	}
	var l []string
	for state := range s.Size() {
		l = append(l, b.print(b.term(s, state)))
	}
	if got, want := strings.Join(l, "; "), "Q; P | b.0; 0 | b.0; P | 0; 0 | 0"; got != want {
		t.Errorf("%s, not %s", got, want)
	}
	if got := b.path(s, 4); !slices.Equal(got, []api.Step{{Label: api.Tau, To: 4}}) {
		t.Errorf("the path to 4: %v", got)
	}
	if got := b.path(s, 0); len(got) > 0 {
		t.Errorf("the path to 0: %v", got)
	}
	b = benchOf(t, "P = a.(P | P)")
	b.refuses("ever more", b.read("P"), api.ErrStates, "generate")
}

func TestP601AsTheWordsSay(t *testing.T) {
	b := benchOf(t, several)
	states := 0
	for _, text := range texts() {
		id := b.read(text)
		want, s := b.unfold(id), b.from(id)
		got := s.System()
		if got.States != len(want.terms) || got.Start != 0 || !slices.Equal(got.Edges, want.edges) {
			t.Errorf("%s: %v, not %d states, %v", text, got, len(want.terms), want.edges)
			continue
		}
		for state, id := range want.terms {
			if got := b.term(s, state); got != id {
				t.Errorf("%s: the state %d is %s, not %s", text, state, b.print(got), b.print(id))
			}
		}
		states = max(states, s.Size())
	}
	if states < 20 {
		t.Errorf("none has more than %d states", states)
	}
}

func TestP601Arguments(t *testing.T) {
	b := benchOf(t, "P = a.P")
	size := b.store.Size()
	for _, id := range []int{0, -1, 1, size, least, greatest} {
		s, err := generate.From(nil, id)
		refused(t, "of no program", s, err, api.ErrArg, "generate")
		// A zero Program is not nil, but has no term.
		s, err = generate.From(&source.Program{}, id)
		refused(t, "of a zero Program", s, err, api.ErrIndex, "generate")
	}
	for _, id := range []int{-1, size, size + 1, least, greatest} {
		b.refuses(fmt.Sprint(id), id, api.ErrIndex, "generate")
	}
	if b.store.Size() != size {
		t.Errorf("%d terms, not %d", b.store.Size(), size)
	}
	b.measures("the first term", 0, 1, 0)
	for id := range size {
		b.from(id)
	}
	_, one := generate.From(b.program, -1)
	one.(*api.Fault).Layer = "x"
	b.refuses("again", -1, api.ErrIndex, "generate")
}

func TestP601States(t *testing.T) {
	b := benchOf(t, "P = a.P")
	most := b.row(api.MaxStates-1, 1, 0)
	b.measures("the most", most, api.MaxStates, api.MaxStates-1)
	b.refuses("one more", b.prefix(1, most), api.ErrStates, "generate")
	b.refuses("one more, twice", b.prefix(1, b.prefix(1, most)), api.ErrStates, "generate")
	b.measures("the most, with a loop", b.row(api.MaxStates-1, 1, b.read("P")), api.MaxStates, api.MaxStates)
	b.refuses("one more, with a loop", b.row(api.MaxStates, 1, b.read("P")), api.ErrStates, "generate")
	// 10 * 10 * 10 states of which each part has one of its own.
	lap := "(a.a.a.a.a.a.a.a.a.0)"
	b.measures("a cube", b.read(lap+" | "+lap+" | "+lap), 1000, 2700)
	b.refuses("a cube and one", b.read("b.("+lap+" | "+lap+" | "+lap+")"), api.ErrStates, "generate")
	b.measures("the most again", most, api.MaxStates, api.MaxStates-1)
}

func TestP601Edges(t *testing.T) {
	b := benchOf(t, "P = a.P")
	most := b.row(250, 40, 0)
	b.measures("the most", most, 251, api.MaxEdges)
	b.refuses("one more", b.prefix(1, most), api.ErrEdges, "generate")
	b.refuses("one more at the end", b.row(250, 40, b.prefix(1, 0)), api.ErrEdges, "generate")
	b.refuses("one more, a loop", b.row(250, 40, b.read("P")), api.ErrEdges, "generate")
	b.measures("one less and a loop", b.sum(b.fan(39, b.row(249, 40, b.read("P"))), 0), 251, api.MaxEdges)
	b.measures("many labels", b.row(50, 200, 0), 51, api.MaxEdges)
	b.refuses("many labels, one more", b.row(51, 200, 0), api.ErrEdges, "generate")
	b.measures("the most again", most, 251, api.MaxEdges)
}

func TestP601WhichLimit(t *testing.T) {
	b := benchOf(t, `E = a0.E + a1.E + a2.E + a3.E + a4.E + a5.E + a6.E + a7.E + a8.E + a9.E
X = a0.X + a1.X + a2.X + a3.X + a4.X + a5.X + a6.X + a7.X + a8.X + a9.X + b.X
Y = a0.Y + a1.Y + a2.Y + a3.Y + a4.Y + a5.Y + a6.Y + a7.Y + a8.Y + a9.Y + b.0
V = a0.V + a1.V + a2.V + a3.V + a4.V + a5.V + a6.V + a7.V + a8.V + b.0
`)
	last := api.MaxStates - 1
	b.measures("the most of both", b.row(last, 10, b.read("E")), api.MaxStates, api.MaxEdges)
	b.refuses("then an edge to what is there", b.row(last, 10, b.read("X")), api.ErrEdges, "generate")
	b.refuses("then an edge to what is new", b.row(last, 10, b.read("Y")), api.ErrStates, "generate")
	b.refuses("an edge less, then one to what is new", b.row(last, 10, b.read("V")), api.ErrStates, "generate")
	// One state less, and 10 edges more ahead of it: the edges are at their most, where a new state has room.
	short := b.fan(20, b.row(last-2, 10, b.read("E")))
	b.measures("a state less, the most edges", short, last, api.MaxEdges)
	b.refuses("then an edge to what is there", b.fan(20, b.row(last-2, 10, b.read("X"))), api.ErrEdges, "generate")
	b.refuses("then an edge to what is new", b.fan(20, b.row(last-2, 10, b.read("Y"))), api.ErrEdges, "generate")
	b.measures("a state less, an edge less, then one to what is new", b.fan(20, b.row(last-2, 10, b.read("V"))), api.MaxStates, api.MaxEdges)
}

// crowd puts a sum of so many prefixes, no two of them the same: their parts are rows of different lengths, from least on.
func (b *bench) crowd(least, n int) int {
	b.Helper()
	part := b.row(least, 1, 0)
	id := b.prefix(3, part)
	for range n - 1 {
		part = b.prefix(1, part)
		id = b.sum(id, b.prefix(3, part))
	}
	return id
}

func TestP601FaultsOfTheRules(t *testing.T) {
	b := benchOf(t, "P = a.P\nQ = 0")
	over, unknown := b.crowd(0, api.MaxSteps+1), b.constant(2)
	b.measures("the most steps", b.crowd(0, api.MaxSteps), api.MaxSteps+1, 2*api.MaxSteps-1)
	for what, wrap := range map[string]func(id int) int{
		"at once":           func(id int) int { return id },
		"behind a step":     func(id int) int { return b.prefix(1, id) },
		"behind many":       func(id int) int { return b.row(api.MaxStates-1, 1, id) },
		"at the most edges": func(id int) int { return b.row(250, 40, id) },
		"needed":            func(id int) int { return b.prefix(1, b.put(api.Term{Kind: api.TermPar, A: b.read("P"), B: id})) },
		"behind a loop":     func(id int) int { return b.sum(b.read("P"), b.prefix(5, b.sum(b.read("P"), b.prefix(5, id)))) },
	} {
		b.refuses("too many steps "+what, wrap(over), api.ErrSteps, "generate", "sos")
		b.refuses("unknown "+what, wrap(unknown), api.ErrUnknown, "generate", "sos")
	}
	b.refuses("both, needed", b.sum(over, unknown), api.ErrUnknown, "generate", "sos")
}

func TestP601TheFirstIsTold(t *testing.T) {
	b := benchOf(t, "P = a.P\nQ = 0")
	over, unknown := b.crowd(0, api.MaxSteps+1), b.constant(2)
	long := b.row(api.MaxStates, 1, 0)
	wide := b.row(251, 40, 0)
	both := func(first, then int) int { return b.sum(b.prefix(1, first), b.prefix(2, then)) }
	b.refuses("too many steps, then unknown", both(over, unknown), api.ErrSteps, "generate", "sos")
	b.refuses("unknown, then too many steps", both(unknown, over), api.ErrUnknown, "generate", "sos")
	b.refuses("unknown, with what is too long", both(long, unknown), api.ErrUnknown, "generate", "sos")
	b.refuses("too many steps, with what is too wide", both(over, wide), api.ErrSteps, "generate", "sos")
	b.refuses("too long and too wide, taken by turns", both(long, wide), api.ErrEdges, "generate")
	// States are found breadth first: 250 that are new of each of 4 are one too many at the fourth of them.
	var fans []int
	for i := range 4 {
		fans = append(fans, b.crowd(300*i, 250))
	}
	four := func(last int) int {
		id := last
		for _, fan := range fans {
			id = b.sum(id, b.prefix(7, fan))
		}
		return id
	}
	b.refuses("what is unknown comes ahead of the fans", four(b.prefix(1, unknown)), api.ErrUnknown, "generate", "sos")
	b.refuses("what is unknown comes behind the fans", four(b.prefix(1, b.prefix(1, unknown))), api.ErrStates, "generate")
	b.refuses("too many steps come ahead of the fans", four(b.prefix(1, over)), api.ErrSteps, "generate", "sos")
	b.refuses("too many steps come behind the fans", four(b.prefix(1, b.prefix(1, over))), api.ErrStates, "generate")
	// What is too much for the rules is told, also where it would be too much for the space with its first step.
	b.refuses("too many steps at the last state", b.row(api.MaxStates-1, 1, over), api.ErrSteps, "generate", "sos")
	b.refuses("the last state but for one is too much", b.row(api.MaxStates, 1, over), api.ErrStates, "generate")
}

func TestP601ErrorsChangeNothing(t *testing.T) {
	b := benchOf(t, several)
	names := b.program.Names().Size()
	text, err := b.program.Text()
	if err != nil {
		t.Fatal(err)
	}
	want := map[int]api.System{}
	for _, text := range texts() {
		id := b.read(text)
		want[id] = b.from(id).System()
	}
	grown := b.program.Names().Size()
	if grown != names+1 {
		t.Errorf("%d names, not %d", grown, names+1)
	}
	for range 2 {
		b.refuses("unknown", b.prefix(1, b.constant(99)), api.ErrUnknown, "generate", "sos")
		b.refuses("too many states", b.row(api.MaxStates, 1, 0), api.ErrStates, "generate")
		b.refuses("too many edges", b.row(251, 40, 0), api.ErrEdges, "generate")
	}
	for id, system := range want {
		got := b.from(id).System()
		// T[new/b] has the name that came last, so that spaces made ahead of it have fewer labels.
		system.Labels = 2*grown + 1
		if !alike(got, system) {
			t.Errorf("%s: %v, not %v", b.print(id), got, system)
		}
	}
	if got, err := b.program.Text(); err != nil || got != text || b.program.Names().Size() != grown {
		t.Errorf("%s, %d names, %v, not %s, %d", got, b.program.Names().Size(), err, text, grown)
	}
}

// TestP601TermsStay: what an error leaves in the store are terms that were begun, and a later call goes on with them.
func TestP601TermsStay(t *testing.T) {
	b := benchOf(t, "P = a.(P | P)")
	id := b.read("P")
	b.refuses("ever more", id, api.ErrStates, "generate")
	size := b.store.Size()
	if size < api.MaxStates {
		t.Errorf("only %d terms", size)
	}
	b.refuses("again", id, api.ErrStates, "generate")
	if b.store.Size() != size {
		t.Errorf("%d terms, not %d", b.store.Size(), size)
	}
}

func TestP601Deep(t *testing.T) {
	const depth = 1<<16 - 2
	b := benchOf(t, "P = a.P")
	for what, row := range map[string]struct {
		within        func(id int) int
		states, edges int
	}{
		"restrictions": {func(id int) int { return b.put(api.Term{Kind: api.TermRes, A: id, Names: []int{5}}) }, 2, 1},
		"parallels":    {func(id int) int { return b.put(api.Term{Kind: api.TermPar, A: id}) }, 2, 1},
		"sums":         {func(id int) int { return b.sum(0, id) }, 2, 1},
	} {
		id := b.prefix(1, 0)
		for range depth {
			id = row.within(id)
		}
		b.measures(what, id, row.states, row.edges)
	}
	b.refuses("prefixes", b.row(depth, 1, 0), api.ErrStates, "generate")
}

func TestP602Labels(t *testing.T) {
	b := benchOf(t, "P = a.0 + b.0\nQ = tau.0\nZ = 0")
	labels := func(what string, s *generate.Space, want int) {
		t.Helper()
		if got := s.System().Labels; got != want {
			t.Errorf("%s: %d labels, not %d", what, got, want)
		}
	}
	none, silent, two := b.from(b.read("Z")), b.from(b.read("Q")), b.from(b.read("P"))
	labels("no edge", none, 5)
	labels("the silent one", silent, 5)
	labels("of the names", two, 5)
	for _, row := range [][2]int{{0, 5}, {1, 5}, {4, 5}, {5, 6}, {6, 7}, {7, 8}, {100, 101}, {api.MaxLabels - 2, api.MaxLabels - 1}, {api.MaxLabels - 1, api.MaxLabels}} {
		labels(fmt.Sprintf("the label %d", row[0]), b.from(b.prefix(row[0], 0)), row[1])
		labels(fmt.Sprintf("the label %d, then a small one", row[0]), b.from(b.prefix(row[0], b.prefix(1, 0))), row[1])
		labels(fmt.Sprintf("the label %d behind a small one", row[0]), b.from(b.sum(b.prefix(1, 0), b.prefix(2, b.prefix(row[0], 0)))), row[1])
		labels(fmt.Sprintf("the label %d that no step has", row[0]), b.from(b.put(api.Term{Kind: api.TermRes, A: b.prefix(row[0], 0), Names: []int{2, 3, 49, 98, 99}})), 5)
	}
	labels("a renaming to a name by hand", b.from(b.put(api.Term{Kind: api.TermRen, A: b.read("P"), Pairs: []api.Pair{{Old: 1, New: 9}}})), 20)
	id := b.read("c.d.0")
	later := b.from(id)
	labels("with new names", later, 9)
	labels("made with the new names", b.from(b.read("Z")), 9)
	for what, s := range map[string]*generate.Space{"no edge": none, "the silent one": silent, "of the names": two} {
		labels(what+", made ahead of the new names", s, 5)
	}
	for i := b.program.Names().Size(); i < api.MaxNames; i++ {
		b.read(fmt.Sprintf("n%d.0", i))
	}
	labels("with all names", b.from(0), api.MaxLabels)
	labels("made ahead of them", later, 9)
}

func TestP602SystemAndSize(t *testing.T) {
	b := benchOf(t, several)
	for _, text := range texts() {
		s := b.from(b.read(text))
		got := s.System()
		if got.Start != 0 || got.States != s.Size() || got.States < 1 || got.Labels != 2*b.program.Names().Size()+1 {
			t.Errorf("%s: %v, %d states", text, got, s.Size())
		}
		if !slices.IsSortedFunc(got.Edges, func(x, y api.Edge) int { return x.From - y.From }) {
			t.Errorf("%s: the edges are not by their From: %v", text, got.Edges)
		}
	}
	if got := b.from(b.read("0")).System(); len(got.Edges) > 0 || got.States != 1 {
		t.Errorf("0: %v", got)
	}
	if got := b.from(b.read("L")).System(); !slices.Equal(got.Edges, edges(0, 0, 0)) || got.States != 1 {
		t.Errorf("L: %v", got)
	}
	if got := b.from(b.read("b.0 + a.0 + tau.a.0")).System(); !slices.Equal(got.Edges, edges(0, 3, 1, 0, 1, 1, 0, 0, 2, 2, 1, 1)) {
		t.Errorf("in the order of the steps: %v", got)
	}
}

func TestP602TermAndState(t *testing.T) {
	b := benchOf(t, several)
	for _, text := range texts() {
		id := b.read(text)
		s := b.from(id)
		if got := b.term(s, 0); got != id {
			t.Errorf("%s: the state 0 is %s", text, b.print(got))
		}
		is := map[int]int{}
		for state := range s.Size() {
			is[b.term(s, state)] = state
		}
		for id := range b.store.Size() {
			want, there := is[id]
			got, err := s.State(id)
			if !there {
				refused(t, text+": State of what is none", got, err, api.ErrNone, "generate")
			} else if err != nil || got != want {
				t.Errorf("%s: the state of %s: %d, %v, not %d", text, b.print(id), got, err, want)
			}
		}
		for _, state := range []int{-1, s.Size(), s.Size() + 1, least, greatest} {
			got, err := s.Term(state)
			refused(t, fmt.Sprint(text, ": Term of ", state), got, err, api.ErrIndex, "generate")
		}
		for _, id := range []int{-1, b.store.Size(), b.store.Size() + 1, least, greatest} {
			got, err := s.State(id)
			refused(t, fmt.Sprint(text, ": State of ", id), got, err, api.ErrNone, "generate")
		}
	}
}

func TestP602TermsThatComeLater(t *testing.T) {
	b := benchOf(t, "P = a.P")
	s := b.from(b.read("P"))
	id := b.read("b.P")
	state, err := s.State(id)
	refused(t, "a term that came later", state, err, api.ErrNone, "generate")
	other := b.from(id)
	if got := b.term(other, 1); got != b.term(s, 0) || s.Size() != 1 || other.Size() != 2 {
		t.Errorf("b.P leads to %s; %d and %d states", b.print(got), s.Size(), other.Size())
	}
}

func TestP602NoSpace(t *testing.T) {
	for what, s := range map[string]*generate.Space{"nil": nil, "zero": {}} {
		if got := s.System(); s.Size() != 0 || !alike(got, api.System{}) {
			t.Errorf("%s: %d states, %v", what, s.Size(), got)
		}
		for _, n := range []int{0, -1, 1, least, greatest} {
			id, err := s.Term(n)
			refused(t, what+": Term", id, err, api.ErrArg, "generate")
			state, err := s.State(n)
			refused(t, what+": State", state, err, api.ErrArg, "generate")
			path, err := s.Path(n)
			refused(t, what+": Path", path, err, api.ErrArg, "generate")
		}
	}
}

func TestP602AnswersAreNew(t *testing.T) {
	b := benchOf(t, several)
	s := b.from(b.read("Q"))
	want, path := s.System(), slices.Clone(b.path(s, 4))
	want.Edges = slices.Clone(want.Edges)
	for range 2 {
		got, way := s.System(), b.path(s, 4)
		if !alike(got, want) || !slices.Equal(way, path) {
			t.Errorf("%v, %v, not %v, %v", got, way, want, path)
		}
		for i := range got.Edges {
			got.Edges[i] = api.Edge{From: 77, Label: 77, To: 77}
		}
		for i := range way {
			way[i] = api.Step{Label: 77, To: 77}
		}
		_ = append(got.Edges, api.Edge{From: 78})
		_ = append(way, api.Step{Label: 78})
	}
}

func TestP603Path(t *testing.T) {
	b := benchOf(t, several)
	longest := 0
	for _, text := range texts() {
		s := b.from(b.read(text))
		all := s.System().Edges
		for state := range s.Size() {
			var want []api.Step
			for at := state; at != 0; {
				first := all[slices.IndexFunc(all, func(e api.Edge) bool { return e.To == at })]
				want = append([]api.Step{{Label: first.Label, To: at}}, want...)
				at = first.From
			}
			if got := b.path(s, state); !slices.Equal(got, want) {
				t.Errorf("%s: the path to %d: %v, not %v", text, state, got, want)
			}
			longest = max(longest, len(want))
		}
		for _, state := range []int{-1, s.Size(), s.Size() + 1, least, greatest} {
			got, err := s.Path(state)
			refused(t, fmt.Sprint(text, ": Path of ", state), got, err, api.ErrIndex, "generate")
		}
	}
	if longest < 4 {
		t.Errorf("no path has more than %d steps", longest)
	}
}

func TestP603Rows(t *testing.T) {
	b := benchOf(t, "P = a.b.P")
	for _, row := range []struct {
		text  string
		state int
		want  []api.Step
	}{
		{"a.a.0", 2, []api.Step{{Label: 1, To: 1}, {Label: 1, To: 2}}},
		{"P", 1, []api.Step{{Label: 1, To: 1}}},
		// There is an edge back to the state 0, but no path is told.
		{"P", 0, nil},
		{"tau.0 + a.0", 1, []api.Step{{Label: 0, To: 1}}},
		{"a.0 + tau.0", 1, []api.Step{{Label: 1, To: 1}}},
		{"a.0 | b.0", 3, []api.Step{{Label: 1, To: 1}, {Label: 3, To: 3}}},
		{"a.'b.0 + b.0", 2, []api.Step{{Label: 3, To: 2}}},
	} {
		if got := b.path(b.from(b.read(row.text)), row.state); !slices.Equal(got, row.want) {
			t.Errorf("%s: the path to %d: %v, not %v", row.text, row.state, got, row.want)
		}
	}
	s := b.from(b.row(api.MaxStates-1, 2, 0))
	path := b.path(s, api.MaxStates-1)
	if len(path) != api.MaxStates-1 {
		t.Errorf("%d steps", len(path))
	}
	for i, step := range path {
		if step != (api.Step{Label: 1, To: i + 1}) {
			t.Errorf("the step %d of a long path: %v", i, step)
		}
	}
}

func TestP604OneStateOneTerm(t *testing.T) {
	b := benchOf(t, several)
	for _, text := range texts() {
		s := b.from(b.read(text))
		printed := map[string]int{}
		for state := range s.Size() {
			printed[b.print(b.term(s, state))] = state
		}
		if len(printed) != s.Size() {
			t.Errorf("%s: %d terms are %d states", text, len(printed), s.Size())
		}
		reached := make([]bool, s.Size())
		reached[0] = true
		for range s.Size() {
			for _, e := range s.System().Edges {
				reached[e.To] = reached[e.To] || reached[e.From]
			}
		}
		if slices.Contains(reached, false) {
			t.Errorf("%s: not all states are reachable", text)
		}
	}
}

// TestP604AlongThePath follows each path by the rules, from term to term.
func TestP604AlongThePath(t *testing.T) {
	b := benchOf(t, several)
	rules, err := sos.New(b.program)
	if err != nil {
		t.Fatal(err)
	}
	for _, text := range texts() {
		s := b.from(b.read(text))
		for state := range s.Size() {
			at := 0
			for _, step := range b.path(s, state) {
				does, err := rules.Does(b.term(s, at), step.Label, b.term(s, step.To))
				if err != nil || !does {
					t.Errorf("%s: no step %v of the state %d: %v", text, step, at, err)
				}
				at = step.To
			}
			if at != state {
				t.Errorf("%s: the path to %d leads to %d", text, state, at)
			}
		}
	}
}

// TestP604SameNotAlike: two ways to one term lead to one state; terms that only behave alike are states apart.
func TestP604SameNotAlike(t *testing.T) {
	b := benchOf(t, "P = a.P")
	b.measures("one term by two ways", b.read("a.b.0 + c.b.0"), 3, 3)
	b.measures("alike, but not the same", b.read("a.(b.0 + b.0) + c.b.0"), 4, 4)
	b.measures("a constant and its body", b.read("b.P + c.a.P"), 3, 4)
}
