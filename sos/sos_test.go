package sos_test

import (
	"errors"
	"fmt"
	"reflect"
	"slices"
	"strings"
	"testing"

	"semblance/act"
	"semblance/api"
	"semblance/sos"
	"semblance/source"
	"semblance/term"
)

const (
	least    = -1 << 63
	greatest = 1<<63 - 1
)

// refused fails, unless err is a fault of sos that wraps just want, without a place, and the result beside it is zero.
func refused(t *testing.T, what string, result any, err, want error) {
	t.Helper()
	if !reflect.ValueOf(result).IsZero() {
		t.Errorf("%s: %.80v beside an error", what, result)
	}
	f, ok := err.(*api.Fault)
	if !ok {
		t.Errorf("%s: %v, not a *api.Fault", what, err)
		return
	}
	if *f != (api.Fault{Layer: "sos", Err: want}) {
		t.Errorf("%s: %+v, not %v", what, *f, want)
	}
	if !errors.Is(err, want) {
		t.Errorf("%s: errors.Is does not find %v", what, want)
	}
}

// bench has a program, its store and rules.
type bench struct {
	*testing.T
	program *source.Program
	store   *term.Store
	rules   *sos.Rules
}

// benchOf makes the bench of a text that is taken.
func benchOf(t *testing.T, text string) *bench {
	t.Helper()
	p, err := source.Parse(text)
	if err != nil {
		t.Fatal(err)
	}
	r, err := sos.New(p)
	if err != nil || r == nil {
		t.Fatal(r, err)
	}
	return &bench{T: t, program: p, store: p.Store(), rules: r}
}

// read tells the term of a text.
func (b *bench) read(text string) int {
	b.Helper()
	id, err := b.program.Term(text)
	if err != nil {
		b.Fatal(text, err)
	}
	return id
}

func (b *bench) put(x api.Term) int {
	b.Helper()
	id, err := b.store.Put(x)
	if err != nil {
		b.Fatal(x, err)
	}
	return id
}

func (b *bench) prefix(label, part int) int {
	b.Helper()
	return b.put(api.Term{Kind: api.TermPrefix, Label: label, A: part})
}

func (b *bench) sum(left, right int) int {
	b.Helper()
	return b.put(api.Term{Kind: api.TermSum, A: left, B: right})
}

func (b *bench) par(left, right int) int {
	b.Helper()
	return b.put(api.Term{Kind: api.TermPar, A: left, B: right})
}

func (b *bench) res(part int, names ...int) int {
	b.Helper()
	return b.put(api.Term{Kind: api.TermRes, A: part, Names: names})
}

func (b *bench) ren(part int, pairs ...api.Pair) int {
	b.Helper()
	return b.put(api.Term{Kind: api.TermRen, A: part, Pairs: pairs})
}

func (b *bench) constant(k int) int {
	b.Helper()
	return b.put(api.Term{Kind: api.TermConst, A: k})
}

// steps tells the steps of a term that has some.
func (b *bench) steps(id int) []api.Step {
	b.Helper()
	l, err := b.rules.Steps(id)
	if err != nil {
		b.Fatalf("Steps(%d): %v", id, err)
	}
	return l
}

// counts fails, unless a term has so many steps, no two of them the same.
func (b *bench) counts(what string, id, want int) {
	b.Helper()
	l, err := b.rules.Steps(id)
	if err != nil || len(l) != want {
		b.Errorf("%s: %d steps, %v, not %d", what, len(l), err, want)
	}
	seen := map[api.Step]bool{}
	for _, s := range l {
		if seen[s] {
			b.Errorf("%s: %v stands there twice", what, s)
		}
		seen[s] = true
	}
}

// refuses fails, unless Steps and Does answer that error of a term.
func (b *bench) refuses(what string, id int, want error) {
	b.Helper()
	l, err := b.rules.Steps(id)
	refused(b.T, what+": Steps", l, err, want)
	for _, to := range []int{0, -1} {
		is, err := b.rules.Does(id, 1, to)
		refused(b.T, what+": Does", is, err, want)
	}
}

// told tells a term's steps as a text.
func (b *bench) told(id int) string {
	b.Helper()
	var l []string
	for _, s := range b.steps(id) {
		label, err := b.program.Names().Text(s.Label)
		if err != nil {
			b.Error(err)
		}
		to, err := b.program.Print(s.To)
		if err != nil {
			b.Error(err)
		}
		l = append(l, label+" to "+to)
	}
	return strings.Join(l, "; ")
}

// crowd puts a sum of the prefixes number from to upTo - 1 of a row in which no two are the same, and no two meet; it has the steps in this order.
func (b *bench) crowd(from, upTo int) int {
	b.Helper()
	id := 0
	for i := from; i < upTo; i++ {
		part := 0
		for range i / api.MaxNames {
			part = b.prefix(api.Tau, part)
		}
		id = b.sum(id, b.prefix(act.Label(i%api.MaxNames, false), part))
	}
	return id
}

func TestP501Examples(t *testing.T) {
	b := benchOf(t, "P = a.P + 'b.0\nQ = P | b.0")
	for _, row := range [][2]string{
		{"P", "a to P; 'b to 0"},
		{"Q", "a to P | b.0; 'b to 0 | b.0; b to P | 0; tau to 0 | 0"},
		{`Q\{b}`, `a to (P | b.0)\{b}; tau to (0 | 0)\{b}`},
		{"P[b/a]", "b to P[b/a]; 'b to 0[b/a]"},
		{"a.0 + a.0", "a to 0"},
	} {
		if got := b.told(b.read(row[0])); got != row[1] {
			t.Errorf("%s: %s, not %s", row[0], got, row[1])
		}
	}
}

func TestP501Rules(t *testing.T) {
	b := benchOf(t, "P = a.P + 'b.0\nQ = P | b.0\nR = S\nS = Q\\{a} + tau.R\nZ = 0\nA = a.0")
	for _, row := range [][2]string{
		{"0", ""}, {"Z", ""}, {"0 + Z", ""}, {"0 | Z", ""}, {`Z\{}`, ""}, {"0[]", ""},
		{"tau.P", "tau to P"}, {"'a.(P + Q)", "'a to P + Q"}, {"a.b.0", "a to b.0"}, {"tau.tau.0", "tau to tau.0"},
		{"b.0 + a.0", "b to 0; a to 0"}, {"a.0 + b.0", "a to 0; b to 0"}, {"a.0 + a.P + a.0", "a to 0; a to P"}, {"a.0 + 'a.0", "a to 0; 'a to 0"},
		{"0 + a.0", "a to 0"}, {"a.0 + 0", "a to 0"}, {"(P + b.P) + P", "a to P; 'b to 0; b to P"}, {"P + A", "a to P; 'b to 0; a to 0"},
		{"R", `'b to (0 | b.0)\{a}; b to (P | 0)\{a}; tau to (0 | 0)\{a}; tau to R`},
		// Of parallels: the left part's, the right one's, then those that meet.
		{"a.0 | 'a.0", "a to 0 | 'a.0; 'a to a.0 | 0; tau to 0 | 0"}, {"'a.0 | a.0", "'a to 0 | a.0; a to 'a.0 | 0; tau to 0 | 0"},
		{"a.0 | a.0", "a to 0 | a.0; a to a.0 | 0"}, {"'a.0 | 'a.0", "'a to 0 | 'a.0; 'a to 'a.0 | 0"}, {"a.0 | 'b.0", "a to 0 | 'b.0; 'b to a.0 | 0"},
		{"tau.0 | tau.0", "tau to 0 | tau.0; tau to tau.0 | 0"}, {"tau.a.0 | tau.'a.0", "tau to a.0 | tau.'a.0; tau to tau.a.0 | 'a.0"},
		{"0 | a.0", "a to 0 | 0"}, {"a.0 | 0", "a to 0 | 0"},
		{"(a.0 + b.P) | ('b.0 + 'a.P)", "a to 0 | ('b.0 + 'a.P); b to P | ('b.0 + 'a.P); 'b to (a.0 + b.P) | 0; 'a to (a.0 + b.P) | P; tau to 0 | P; tau to P | 0"},
		{"(a.0 + b.0 + tau.0) | ('b.0 + 'a.0 + tau.0)", "a to 0 | ('b.0 + 'a.0 + tau.0); b to 0 | ('b.0 + 'a.0 + tau.0); tau to 0 | ('b.0 + 'a.0 + tau.0); 'b to (a.0 + b.0 + tau.0) | 0; 'a to (a.0 + b.0 + tau.0) | 0; tau to (a.0 + b.0 + tau.0) | 0; tau to 0 | 0"},
		{"(a.0 + a.P) | ('a.0 + 'a.P)", "a to 0 | ('a.0 + 'a.P); a to P | ('a.0 + 'a.P); 'a to (a.0 + a.P) | 0; 'a to (a.0 + a.P) | P; tau to 0 | 0; tau to 0 | P; tau to P | 0; tau to P | P"},
		{"a.0 | 'a.0 | 'a.0", "a to 0 | 'a.0 | 'a.0; 'a to a.0 | 0 | 'a.0; tau to 0 | 0 | 'a.0; 'a to a.0 | 'a.0 | 0; tau to 0 | 'a.0 | 0"},
		// Restrictions: the name and its co-name, never the silent one; an empty one stays.
		{`(a.0 + 'a.0 + b.0 + tau.0)\{a}`, `b to 0\{a}; tau to 0\{a}`}, {`(a.0 + 'a.0)\{}`, `a to 0\{}; 'a to 0\{}`}, {`(a.0 + b.0)\{a, b}`, ""}, {`a.a.0\{b}\{b}`, `a to a.0\{b}\{b}`}, {`(a.0 | 'a.0)\{a}`, `tau to (0 | 0)\{a}`},
		// Renamings: the co-name along, never the silent one, all at once, each once.
		{"(a.0 + 'a.0 + tau.0)[b/a]", "b to 0[b/a]; 'b to 0[b/a]; tau to 0[b/a]"}, {"(a.0 + b.0)[b/a, a/b]", "b to 0[b/a, a/b]; a to 0[b/a, a/b]"}, {"(a.0 + b.0)[a/b]", "a to 0[a/b]"}, {"(a.0 + b.P)[a/b]", "a to 0[a/b]; a to P[a/b]"}, {"a.0[]", "a to 0[]"}, {"a.0[b/a][c/b]", "c to 0[b/a][c/b]"}, {"(a.0 | 'b.0)[b/a]", "b to (0 | 'b.0)[b/a]; 'b to (a.0 | 0)[b/a]"}, {"a.0[b/a] | 'b.0", "b to 0[b/a] | 'b.0; 'b to a.0[b/a] | 0; tau to 0[b/a] | 0"},
		{`a.0[b/a]\{a}`, `b to 0[b/a]\{a}`}, {`a.0[b/a]\{b}`, ""}, {`a.0\{b}[b/a]`, `b to 0\{b}[b/a]`},
	} {
		if got := b.told(b.read(row[0])); got != row[1] {
			t.Errorf("%s: %s, not %s", row[0], got, row[1])
		}
	}
}

func TestP501LoopsStandOnce(t *testing.T) {
	b := benchOf(t, "L = tau.L + a.L\nM = 'a.M + tau.M")
	for _, row := range [][2]string{
		{"L | M", "tau to L | M; a to L | M; 'a to L | M"},
		{"L | L", "tau to L | L; a to L | L"},
		{"L[a/a] + L", "tau to L[a/a]; a to L[a/a]; tau to L; a to L"},
	} {
		if got := b.told(b.read(row[0])); got != row[1] {
			t.Errorf("%s: %s, not %s", row[0], got, row[1])
		}
	}
}

func TestP501EdgesOfLabels(t *testing.T) {
	b := benchOf(t, "P = 0")
	last, co := b.prefix(api.MaxLabels-2, 0), b.prefix(api.MaxLabels-1, 0)
	if got, want := b.steps(co), []api.Step{{Label: api.MaxLabels - 1}}; !slices.Equal(got, want) {
		t.Errorf("the last label: %v", got)
	}
	both := b.steps(b.par(last, co))
	want := []api.Step{{Label: api.MaxLabels - 2, To: b.par(0, co)}, {Label: api.MaxLabels - 1, To: b.par(last, 0)}, {Label: api.Tau, To: b.par(0, 0)}}
	if !slices.Equal(both, want) {
		t.Errorf("the last name meets its co-name: %v, not %v", both, want)
	}
	b.counts("the last name restricted", b.res(b.sum(last, co), api.MaxNames-1), 0)
	first := b.ren(co, api.Pair{Old: api.MaxNames - 1, New: 0})
	if got, want := b.steps(first), []api.Step{{Label: 2, To: b.ren(0, api.Pair{Old: api.MaxNames - 1, New: 0})}}; !slices.Equal(got, want) {
		t.Errorf("the last name renamed: %v, not %v", got, want)
	}
}

func TestP501AnswersAreNew(t *testing.T) {
	b := benchOf(t, "P = a.0 + b.0\nQ = P")
	for _, text := range []string{"P", "Q", "P + P", "a.0 + b.0", "P + c.0", "P | P", `P\{c}`, "P[c/a]"} {
		id := b.read(text)
		one := b.steps(id)
		want := slices.Clone(one)
		for i := range one {
			one[i] = api.Step{Label: 77, To: 77}
		}
		_ = append(one, api.Step{Label: 78, To: 78})
		if got := b.steps(id); !slices.Equal(got, want) {
			t.Errorf("%s: %v, not %v", text, got, want)
		}
	}
	if got := b.told(b.read("Q + P")); got != "a to 0; b to 0" {
		t.Errorf("Q + P: %s", got)
	}
}

func TestP501PutsWhatIsNew(t *testing.T) {
	b := benchOf(t, "P = a.P")
	id := b.read("P | b.0")
	size := b.store.Size()
	steps := b.steps(id)
	if want := []api.Step{{Label: 1, To: id}, {Label: 3, To: size}}; !slices.Equal(steps, want) || b.store.Size() != size+1 {
		t.Errorf("%v, %d terms, not %v, %d", steps, b.store.Size(), want, size+1)
	}
	if to := b.read("P | 0"); to != size {
		t.Errorf("P | 0 is %d, not %d", to, size)
	}
}

func TestP502New(t *testing.T) {
	r, err := sos.New(nil)
	refused(t, "New(nil)", r, err, api.ErrArg)
	for what, none := range map[string]*sos.Rules{"nil": nil, "zero": {}, "New(nil)": r} {
		for _, id := range []int{0, -1, 1, least, greatest} {
			l, err := none.Steps(id)
			refused(t, what+": Steps", l, err, api.ErrArg)
			is, err := none.Does(id, 0, id)
			refused(t, what+": Does", is, err, api.ErrArg)
		}
	}
	// A zero Program is not nil: its rules have no term.
	r, err = sos.New(&source.Program{})
	if err != nil || r == nil {
		t.Fatal(r, err)
	}
	for _, id := range []int{0, -1, 1, least, greatest} {
		l, err := r.Steps(id)
		refused(t, "of a zero Program: Steps", l, err, api.ErrIndex)
		is, err := r.Does(id, 0, 0)
		refused(t, "of a zero Program: Does", is, err, api.ErrIndex)
	}
}

func TestP502KeepsTheProgram(t *testing.T) {
	b := benchOf(t, "P = a.P")
	size := b.store.Size()
	b.refuses("not there as yet", size, api.ErrIndex)
	if id := b.read("b.P"); id != size || b.told(id) != "b to P" {
		t.Errorf("b.P is %d, not %d: %s", id, size, b.told(id))
	}
}

func TestP502Index(t *testing.T) {
	b := benchOf(t, "P = a.P")
	for _, id := range []int{-1, b.store.Size(), b.store.Size() + 1, least, greatest} {
		b.refuses(fmt.Sprint(id), id, api.ErrIndex)
	}
	_, one := b.rules.Steps(-1)
	one.(*api.Fault).Layer = "x"
	b.refuses("again", -1, api.ErrIndex)
}

// needing tells terms that need a term, one in each place where that may stand, and what hides all that it does.
func (b *bench) needing(id int) map[string]int {
	b.Helper()
	var all []int
	for i := range api.MaxNames {
		all = append(all, i)
	}
	one := b.prefix(1, 0)
	l := map[string]int{
		"itself": id, "left of a sum": b.sum(id, one), "right of a sum": b.sum(one, id), "left of a parallel": b.par(id, one), "right of a parallel": b.par(one, id), "beside 0": b.par(0, id),
		"restricted": b.res(id, 3), "hidden": b.res(id, all...), "restricted by nothing": b.res(id), "renamed": b.ren(id, api.Pair{Old: 3, New: 4}), "renamed by nothing": b.ren(id),
	}
	l["deep"] = b.sum(one, b.res(b.par(b.ren(b.sum(one, b.sum(id, one)), api.Pair{Old: 7, New: 2}), one), 5))
	return l
}

func TestP502Unknown(t *testing.T) {
	b := benchOf(t, "P = a.P\nQ = 0")
	for _, k := range []int{2, 3, api.MaxDefs - 1} {
		unknown := b.constant(k)
		for where, id := range b.needing(unknown) {
			b.refuses(where, id, api.ErrUnknown)
			below := b.prefix(1, id)
			if got, want := b.steps(below), []api.Step{{Label: 1, To: id}}; !slices.Equal(got, want) {
				t.Errorf("%s, below a prefix: %v, not %v", where, got, want)
			}
			b.counts(where+", below a prefix", b.sum(below, b.par(b.read("P"), below)), 3)
		}
	}
	b.counts("the last constant that is known", b.constant(1), 0)
}

func TestP502Steps(t *testing.T) {
	b := benchOf(t, "P = a.P")
	most, over := b.crowd(0, api.MaxSteps), b.crowd(0, api.MaxSteps+1)
	for where, id := range b.needing(over) {
		b.refuses(where, id, api.ErrSteps)
		b.counts(where+", below a prefix", b.prefix(0, id), 1)
	}
	b.counts("the most", most, api.MaxSteps)
	for i, s := range b.steps(most) {
		if want := act.Label(i%api.MaxNames, false); s.Label != want {
			t.Errorf("step %d: label %d, not %d", i, s.Label, want)
		}
	}
	b.counts("the most, below restrictions", b.res(b.res(most, 3), 3), api.MaxSteps-3)
	b.counts("the most, renamed", b.ren(most, api.Pair{Old: 98, New: 99}, api.Pair{Old: 99, New: 98}), api.MaxSteps)
	b.counts("renamed, so that they are fewer", b.ren(most, api.Pair{Old: 0, New: 98}, api.Pair{Old: 1, New: 99}), api.MaxSteps-4)
	b.counts("with what stands there already", b.sum(b.sum(most, b.crowd(10, 20)), most), api.MaxSteps)
	b.counts("all again, from the right", b.sum(b.crowd(100, 200), b.sum(b.crowd(0, 10), most)), api.MaxSteps)
	b.refuses("with one more", b.sum(most, b.prefix(0, 0)), api.ErrSteps)
	b.refuses("with one more on the left", b.sum(b.prefix(0, 0), most), api.ErrSteps)
	b.counts("two halves", b.sum(b.crowd(0, 128), b.crowd(128, 256)), api.MaxSteps)
	b.counts("two that share some", b.sum(b.crowd(0, 200), b.crowd(100, 256)), api.MaxSteps)
	b.refuses("two halves and one", b.sum(b.crowd(0, 128), b.crowd(128, 257)), api.ErrSteps)
	b.counts("over the most, in parts that are asked for alone", b.crowd(128, 257), 129)
}

func TestP502StepsOfParallels(t *testing.T) {
	b := benchOf(t, "P = a.P")
	most := b.crowd(0, api.MaxSteps)
	b.counts("left alone", b.par(most, 0), api.MaxSteps)
	b.counts("right alone", b.par(0, most), api.MaxSteps)
	b.refuses("left and one", b.par(most, b.prefix(0, 0)), api.ErrSteps)
	b.refuses("one and right", b.par(b.prefix(0, 0), most), api.ErrSteps)
	b.counts("two halves", b.par(b.crowd(0, 128), b.crowd(0, 128)), api.MaxSteps)
	b.refuses("two halves and one", b.par(b.crowd(0, 128), b.crowd(0, 129)), api.ErrSteps)
	// 15 and 15 that all meet are 15 + 15 + 225.
	left, right, part := 0, 0, 0
	for range 15 {
		left, right = b.sum(left, b.prefix(1, part)), b.sum(right, b.prefix(2, part))
		part = b.prefix(5, part)
	}
	b.counts("all that meet", b.par(left, right), 255)
	left = b.sum(left, b.prefix(0, part))
	b.counts("all that meet, and one", b.par(left, right), api.MaxSteps)
	b.refuses("all that meet, and two", b.par(left, b.sum(right, b.prefix(3, 0))), api.ErrSteps)
	b.refuses("all that meet, and two on the left", b.par(b.sum(left, b.prefix(3, 0)), right), api.ErrSteps)
}

func TestP502StepsOfBodies(t *testing.T) {
	var list []string
	for i := range api.MaxSteps + 1 {
		list = append(list, fmt.Sprintf("n%d.%s0", i%api.MaxNames, strings.Repeat("tau.", i/api.MaxNames)))
	}
	most := strings.Join(list[:api.MaxSteps], " + ")
	b := benchOf(t, "M = "+most+"\nO = M + "+list[api.MaxSteps]+"\nN = n0.O\nU = O\\{n1}\n")
	b.counts("the most", b.read("M"), api.MaxSteps)
	b.counts("with one more below a prefix", b.read("N"), 1)
	b.refuses("one more", b.read("O"), api.ErrSteps)
	b.refuses("one more, restricted", b.read("U"), api.ErrSteps)
	b.refuses("one more, needed", b.read("0 | (N + U)"), api.ErrSteps)
	b.counts("the most again", b.read("M + M"), api.MaxSteps)
}

func TestP502UnknownComesFirst(t *testing.T) {
	b := benchOf(t, "P = a.P")
	over, unknown := b.crowd(0, api.MaxSteps+1), b.constant(9)
	b.refuses("alone", over, api.ErrSteps)
	for where, id := range b.needing(unknown) {
		for what, both := range map[string]int{"sum": b.sum(over, id), "sum, the other way": b.sum(id, over), "parallel": b.par(over, id), "parallel, the other way": b.par(id, over)} {
			b.refuses(what+", "+where, both, api.ErrUnknown)
		}
		b.refuses("below a prefix, "+where, b.sum(over, b.prefix(1, id)), api.ErrSteps)
	}
	for where, id := range b.needing(over) {
		b.refuses("beside it, "+where, b.par(id, b.res(unknown)), api.ErrUnknown)
	}
	b.refuses("alone again", over, api.ErrSteps)
}

func TestP502Deep(t *testing.T) {
	const depth = 1<<16 - 2
	b := benchOf(t, "P = a.P")
	p := b.read("P")
	for what, within := range map[string]func(id int) int{
		"sums":         func(id int) int { return b.sum(id, p) },
		"sums, right":  func(id int) int { return b.sum(p, id) },
		"parallels":    func(id int) int { return b.par(id, 0) },
		"restrictions": func(id int) int { return b.res(id, 5) },
		"renamings":    func(id int) int { return b.ren(id, api.Pair{Old: 5, New: 6}) },
		"all":          func(id int) int { return b.ren(b.res(b.par(0, b.sum(id, p)), 5), api.Pair{Old: 5, New: 6}) },
	} {
		id, n := p, depth
		if what == "all" {
			n = 100
		}
		for range n {
			id = within(id)
		}
		l, err := b.rules.Steps(id)
		if err != nil || len(l) == 0 || l[0].Label != 1 {
			t.Errorf("%s: %d steps, %v", what, len(l), err)
		}
	}
	id := b.crowd(0, api.MaxSteps)
	for range depth - api.MaxSteps {
		id = b.sum(id, p)
	}
	b.refuses("many, and one more", id, api.ErrSteps)
}

func TestP502EndsQuickly(t *testing.T) {
	b := benchOf(t, "P = a.P")
	most := b.crowd(0, api.MaxSteps)
	sum, par := most, 0
	for range 1000 {
		sum, par = b.sum(sum, sum), b.par(par, par)
	}
	b.counts("sums doubled", sum, api.MaxSteps)
	b.counts("parallels doubled", par, 0)
	left, right := b.crowd(0, api.MaxSteps), 0
	for i := range api.MaxNames {
		right = b.sum(right, b.prefix(act.Label(i, true), 0))
	}
	for range 50 {
		left = b.par(left, right)
		b.refuses("much that meets", left, api.ErrSteps)
	}
	id := b.constant(99)
	for range 1000 {
		id = b.par(id, id)
	}
	b.refuses("unknown, doubled", id, api.ErrUnknown)
}

func TestP503Does(t *testing.T) {
	b := benchOf(t, "P = a.P + 'b.0\nQ = P | b.0")
	for _, text := range []string{"0", "P", "Q", `Q\{b}`, "P[b/a]", "tau.0 + a.0"} {
		id := b.read(text)
		steps := b.steps(id)
		for to := range b.store.Size() {
			for _, label := range []int{least, -1, 0, 1, 2, 3, 4, 5, api.MaxLabels - 1, api.MaxLabels, greatest} {
				is, err := b.rules.Does(id, label, to)
				if want := slices.Contains(steps, api.Step{Label: label, To: to}); err != nil || is != want {
					t.Errorf("%s: Does(%d, %d, %d): %v, %v, not %v", text, id, label, to, is, err, want)
				}
			}
		}
		for _, to := range []int{least, -1, b.store.Size(), b.store.Size() + 1, greatest} {
			is, err := b.rules.Does(id, 1, to)
			refused(t, fmt.Sprint(text, " to ", to), is, err, api.ErrIndex)
		}
	}
}

func TestP503ToWhatTheStepsPut(t *testing.T) {
	b := benchOf(t, "P = a.P")
	id := b.read("P | b.0")
	to := b.store.Size()
	is, err := b.rules.Does(id, 3, to)
	if err != nil || !is {
		t.Errorf("%v, %v", is, err)
	}
	is, err = b.rules.Does(id, 3, b.store.Size())
	refused(t, "behind it", is, err, api.ErrIndex)
}
