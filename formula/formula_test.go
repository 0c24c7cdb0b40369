package formula_test

import (
	"errors"
	"fmt"
	"slices"
	"strings"
	"testing"

	"semblance/api"
	"semblance/formula"
	"semblance/generate"
	"semblance/source"
	"semblance/strong"
)

// equal fails, unless two lists are the same; nil and empty are one.
func equal[T comparable](t *testing.T, what string, got, want []T) {
	t.Helper()
	if !slices.Equal(got, want) {
		t.Errorf("%.200s: %.200s, not %.200s", what, fmt.Sprint(got), fmt.Sprint(want))
	}
}

// isFault fails, unless err is a chain of faults of these layers, each at that place, down to one of api's errors.
func isFault(t *testing.T, what string, err, end error, line, col int, layers ...string) {
	t.Helper()
	at := err
	for _, layer := range layers {
		f, ok := at.(*api.Fault)
		if !ok || f.Layer != layer || f.Line != line || f.Col != col {
			t.Errorf("%.200s: %+v, no fault of %s at %d:%d", what, at, layer, line, col)
			return
		}
		at = f.Err
	}
	if at != end || !errors.Is(err, end) || api.Code(err) != api.Code(end) {
		t.Errorf("%.200s: %v, not %v", what, err, end)
	}
}

// printed tells the text of a formula that is one.
func printed(t *testing.T, f []api.Node) string {
	t.Helper()
	text, err := formula.Print(f)
	if err != nil {
		t.Fatalf("Print(%v): %v", f, err)
	}
	return text
}

// parsed tells the formula of a text that has one.
func parsed(t *testing.T, text string) []api.Node {
	t.Helper()
	f, err := formula.Parse(text)
	if err != nil {
		t.Fatalf("Parse(%.200q): %v", text, err)
	}
	return f
}

// holding tells at which states a formula holds, of a system and a formula that are such.
func holding(t *testing.T, s api.System, f []api.Node) []bool {
	t.Helper()
	holds, err := formula.Holds(s, f)
	if err != nil {
		t.Fatalf("Holds(%v, %v): %v", s, f, err)
	}
	return holds
}

// wide tells formulas of just so many nodes, an odd number, of several shapes, with the text of each.
func wide(size int) map[string][]api.Node {
	side := func(node api.Node, many int) []api.Node { return slices.Repeat([]api.Node{node}, many) }
	one, both := api.Node{Op: api.FormTrue}, api.Node{Op: api.FormAnd}
	half := size / 2
	return map[string][]api.Node{
		strings.Repeat("~", size-1) + "tt":                                         append(formula.True(), side(api.Node{Op: api.FormNot}, size-1)...),
		strings.Repeat("<200>", size-1) + "tt":                                     append(formula.True(), side(api.Node{Op: api.FormMay, Label: 200}, size-1)...),
		"tt" + strings.Repeat(" & tt", half):                                       append(formula.True(), slices.Repeat([]api.Node{one, both}, half)...),
		strings.Repeat("tt & (", half-1) + "tt & tt" + strings.Repeat(")", half-1): append(side(one, half+1), side(both, half)...),
	}
}

func TestP1501Given(t *testing.T) {
	one, no, both := api.Node{Op: api.FormTrue}, api.Node{Op: api.FormNot}, api.Node{Op: api.FormAnd}
	step := func(label int) api.Node { return api.Node{Op: api.FormMay, Label: label} }
	for _, c := range []struct {
		list  []api.Node
		valid bool
		depth int
	}{
		{nil, false, 0}, {[]api.Node{}, false, 0}, {[]api.Node{no}, false, 0}, {[]api.Node{one, one}, false, 0}, {[]api.Node{one, step(1), step(1)}, true, 2},
		{[]api.Node{one}, true, 0}, {[]api.Node{one, no}, true, 0}, {[]api.Node{no, one}, false, 0}, {[]api.Node{step(0)}, false, 0}, {[]api.Node{both}, false, 0},
		{[]api.Node{one, both}, false, 0}, {[]api.Node{one, both, one}, false, 0}, {[]api.Node{one, one, both}, true, 0}, {[]api.Node{one, one, both, both}, false, 0}, {[]api.Node{one, one, one, both}, false, 0},
		{[]api.Node{one, step(0)}, true, 1}, {[]api.Node{one, step(200)}, true, 1}, {[]api.Node{one, step(201)}, false, 0}, {[]api.Node{one, step(-1)}, false, 0}, {[]api.Node{one, step(least)}, false, 0}, {[]api.Node{one, step(greatest)}, false, 0},
		{[]api.Node{{Op: api.FormTrue, Label: 1}}, false, 0}, {[]api.Node{one, {Op: api.FormNot, Label: -1}}, false, 0}, {[]api.Node{one, one, {Op: api.FormAnd, Label: 1}}, false, 0},
		{[]api.Node{{}}, false, 0}, {[]api.Node{{Op: 5}}, false, 0}, {[]api.Node{{Op: -1}}, false, 0}, {[]api.Node{{Op: least}}, false, 0}, {[]api.Node{{Op: greatest}}, false, 0}, {[]api.Node{one, {Op: 5}}, false, 0}, {[]api.Node{one, {}}, false, 0},
		// Mays that stand beside one another are not within one another, whichever part is the deeper one.
		{[]api.Node{one, step(1), one, step(1), both}, true, 1}, {[]api.Node{one, step(1), step(2), one, step(1), both, no, step(0)}, true, 3}, {[]api.Node{one, one, step(1), step(1), both, step(0)}, true, 3}, {[]api.Node{one, step(1), step(1), one, both}, true, 2},
		// Steps count only in what is valid.
		{[]api.Node{one, step(1), step(1), no, one}, false, 0}, {[]api.Node{one, step(1), step(201)}, false, 0},
	} {
		if valid, depth := formula.Valid(c.list), formula.Depth(c.list); valid != c.valid || depth != c.depth {
			t.Errorf("%v: %v %d, not %v %d", c.list, valid, depth, c.valid, c.depth)
		}
	}
}

func TestP1501EveryShortList(t *testing.T) {
	kinds := []api.Node{{Op: 1}, {Op: 2}, {Op: 3}, {Op: 4}, {Op: 4, Label: 200}, {Op: 4, Label: 201}, {Op: 4, Label: -1}, {}, {Op: 5}, {Op: 1, Label: 1}, {Op: 2, Label: 1}, {Op: 3, Label: 1}}
	count := 0
	var walk func(list []api.Node, left int)
	walk = func(list []api.Node, left int) {
		model, valid := treeOf(list)
		if formula.Valid(list) != valid || formula.Depth(list) != model.depth() {
			t.Fatalf("%v: %v %d, not %v", list, formula.Valid(list), formula.Depth(list), valid)
		}
		if valid {
			count++
		}
		for i := 0; i < len(kinds) && left > 0; i++ {
			// From the fifth one on only those that are right: there would be too many.
			if len(list) < 4 || i < 4 {
				walk(append(list[:len(list):len(list)], kinds[i]), left-1)
			}
		}
	}
	walk(nil, 8)
	if count < 1000 {
		t.Errorf("only %d formulas", count)
	}
}

func TestP1501Limits(t *testing.T) {
	for text, f := range wide(api.MaxFormula - 1) {
		greatest := append(slices.Clone(f), api.Node{Op: api.FormNot})
		beyond := append(slices.Clone(greatest), api.Node{Op: api.FormNot})
		if !formula.Valid(f) || !formula.Valid(greatest) || formula.Valid(beyond) {
			t.Errorf("%.20s: %v %v %v", text, formula.Valid(f), formula.Valid(greatest), formula.Valid(beyond))
		}
		depth := strings.Count(text, "<")
		if formula.Depth(f) != depth || formula.Depth(greatest) != depth || formula.Depth(beyond) != 0 {
			t.Errorf("%.20s: depth %d, %d, %d", text, formula.Depth(f), formula.Depth(greatest), formula.Depth(beyond))
		}
	}
	for _, f := range wide(api.MaxFormula + 1) {
		if formula.Valid(f) || formula.Depth(f) != 0 {
			t.Error("a formula that is too great")
		}
	}
	if formula.Valid(make([]api.Node, 1<<20)) {
		t.Error("a great list")
	}
}

func TestP1502Given(t *testing.T) {
	for want, one := range map[string]tree{
		"tt":                        tt(),
		"~tt":                       not(tt()),
		"~~tt":                      not(not(tt())),
		"<3>~tt":                    may(3, not(tt())),
		"<0>tt":                     may(0, tt()),
		"<200><10>tt":               may(200, may(10, tt())),
		"~<7>tt":                    not(may(7, tt())),
		"tt & tt":                   and(tt(), tt()),
		"tt & tt & tt":              and(and(tt(), tt()), tt()),
		"tt & (tt & ~tt)":           and(tt(), and(tt(), not(tt()))),
		"~(tt & tt)":                not(and(tt(), tt())),
		"~tt & tt":                  and(not(tt()), tt()),
		"<1>(tt & tt)":              may(1, and(tt(), tt())),
		"<1>tt & <2>tt":             and(may(1, tt()), may(2, tt())),
		"~~(tt & tt)":               not(not(and(tt(), tt()))),
		"tt & tt & (tt & tt)":       and(and(tt(), tt()), and(tt(), tt())),
		"tt & (tt & (tt & tt))":     and(tt(), and(tt(), and(tt(), tt()))),
		"tt & (tt & tt & tt)":       and(tt(), and(and(tt(), tt()), tt())),
		"~(tt & tt) & <9>(tt & tt)": and(not(and(tt(), tt())), may(9, and(tt(), tt()))),
	} {
		if got := printed(t, one.list()); got != want || one.text() != want {
			t.Errorf("%q, not %q", got, want)
		}
	}
}

func TestP1502Several(t *testing.T) {
	x := &numbers{at: 2}
	list := upToSize(8, 0, 12)
	for range 3000 {
		list = append(list, x.tree(1+x.below(200), api.MaxLabels))
	}
	for _, one := range list {
		if got, want := printed(t, one.list()), one.text(); got != want {
			t.Fatalf("%q, not %q", got, want)
		}
	}
}

func TestP1502Refused(t *testing.T) {
	for _, f := range [][]api.Node{nil, {{Op: api.FormNot}}, {{Op: 1}, {Op: 1}}, {{Op: 1, Label: 1}}, {{Op: 1}, {Op: 4, Label: 201}}, {{Op: 5}}, make([]api.Node, api.MaxFormula+1), slices.Repeat([]api.Node{{Op: 1}}, api.MaxFormula+1)} {
		text, err := formula.Print(f)
		isFault(t, fmt.Sprint(f), err, api.ErrFormula, 0, 0, "formula")
		if text != "" {
			t.Errorf("%q beside an error", text)
		}
	}
	for _, f := range wide(api.MaxFormula + 1) {
		_, err := formula.Print(f)
		isFault(t, "a formula that is too great", err, api.ErrFormula, 0, 0, "formula")
	}
}

func TestP1502Limits(t *testing.T) {
	// These are as long as a text may be: no formula has one of more than MaxText bytes.
	for want, f := range wide(api.MaxFormula - 1) {
		if got := printed(t, f); got != want {
			t.Errorf("%.40s.. of %d bytes, not %.40s.. of %d", got, len(got), want, len(want))
		}
		if got := printed(t, append(f, api.Node{Op: api.FormMay, Label: 200})); !strings.HasPrefix(got, "<200>") || len(got) > 5*api.MaxFormula {
			t.Errorf("%.40s.. of %d bytes", got, len(got))
		}
	}
}

func TestP1504Given(t *testing.T) {
	for text, want := range map[string][]bool{
		"tt": {true, true, true, true}, "~tt": {false, false, false, false}, "~~tt": {true, true, true, true},
		"<1>tt": {true, true, false, true}, "<1><1>tt": {true, false, false, false}, "<1>~<1>tt": {false, true, false, true}, "<1><1><1>tt": {false, false, false, false},
		"~<1>tt": {false, false, true, false}, "<1>tt & ~<1><1>tt": {false, true, false, true}, "~(<1>tt & ~<1><1>tt)": {true, false, true, false}, "<1>tt & tt": {true, true, false, true}, "~tt & <1>tt": {false, false, false, false},
		// The label 0 has no edge here; from 2 on the system has no such label.
		"<0>tt": {false, false, false, false}, "~<0>tt": {true, true, true, true}, "<2>tt": {false, false, false, false}, "<200>tt": {false, false, false, false}, "~<5>tt & ~<1>tt": {false, false, true, false}, "<1>~<200>tt": {true, true, false, true},
	} {
		f := parsed(t, text)
		equal(t, text, holding(t, given(), f), want)
		for state, is := range want {
			if got, err := formula.At(given(), f, state); err != nil || got != is {
				t.Errorf("%s at %d: %v, %v", text, state, got, err)
			}
		}
	}
	equal(t, "no state", holding(t, api.System{Labels: 1}, parsed(t, "tt")), nil)
	equal(t, "no state, a great formula", holding(t, api.System{Labels: 1}, parsed(t, "~(<3>tt & ~tt)")), nil)
	// Where one of several steps leads does, and where it starts does not matter; edges that stand twice count once.
	s := api.System{States: 3, Labels: 2, Start: 2, Edges: edges(0, 0, 1, 0, 0, 2, 1, 1, 1, 0, 0, 1, 2, 0, 2, 2, 1, 0)}
	equal(t, "some step", holding(t, s, parsed(t, "<0><1>tt")), []bool{true, false, true})
	equal(t, "each step", holding(t, s, parsed(t, "<0>tt & ~<0>~<1>tt")), []bool{true, false, true})
	equal(t, "back", holding(t, s, parsed(t, "<1>~<1>tt")), []bool{false, false, true})
}

func TestP1504AsTheWordsHaveIt(t *testing.T) {
	x := &numbers{at: 15}
	list := upToSize(5, 0, 1)
	for range 300 {
		list = append(list, x.tree(1+x.below(25), 4))
	}
	var yes, no int
	for range 40 {
		s := x.system(1+x.below(6), 3, 14)
		for _, one := range list {
			got, want := holding(t, s, one.list()), one.rowOf(s)
			if !slices.Equal(got, want) {
				t.Fatalf("%s in %v: %v, not %v", one.text(), s, got, want)
			}
			for state := range want {
				if is, err := formula.At(s, one.list(), state); err != nil || is != want[state] {
					t.Fatalf("%s in %v at %d: %v, %v", one.text(), s, state, is, err)
				}
				if want[state] {
					yes++
				} else {
					no++
				}
			}
		}
	}
	if yes < 5000 || no < 5000 {
		t.Errorf("%d times it holds, %d times not", yes, no)
	}
}

func TestP1504AtTheLimits(t *testing.T) {
	// Behind each other stand 1000 states: <0> of n steps holds where there are as many.
	chain := api.System{States: api.MaxStates, Labels: api.MaxLabels, Start: 5}
	for i := range api.MaxStates - 1 {
		chain.Edges = append(chain.Edges, api.Edge{From: i, Label: 200, To: i + 1})
	}
	for _, many := range []int{0, 1, 500, 999, 1000, 4999} {
		f := append(formula.True(), slices.Repeat([]api.Node{{Op: api.FormMay, Label: 200}}, many)...)
		for state, holds := range holding(t, chain, f) {
			if holds != (state+many < api.MaxStates) {
				t.Errorf("%d steps from %d: %v", many, state, holds)
			}
		}
	}
	// As many edges as there may be, and as many nodes.
	x := &numbers{at: 16}
	full := api.System{States: api.MaxStates, Labels: 2}
	for range api.MaxEdges {
		full.Edges = append(full.Edges, api.Edge{From: x.below(api.MaxStates), Label: 1, To: x.below(api.MaxStates)})
	}
	for text, f := range wide(api.MaxFormula - 1) {
		holds := holding(t, full, append(f, api.Node{Op: api.FormMay, Label: 1}))
		for state, is := range holds {
			has := slices.ContainsFunc(full.Edges, func(e api.Edge) bool { return e.From == state })
			if is != (has && !strings.Contains(text, "<200>")) {
				t.Fatalf("%.20s.. at %d: %v", text, state, is)
			}
		}
	}
}

// noSystems are systems that are none.
func noSystems() []api.System {
	return []api.System{{}, {States: -1, Labels: 1}, {States: greatest, Labels: 1}, {States: api.MaxStates + 1, Labels: 1}, {States: 1}, {States: 1, Labels: api.MaxLabels + 1}, {States: 1, Labels: 1, Start: 1}, {Labels: 1, Edges: edges(0, 0, 0)}, {States: 1, Labels: 1, Edges: make([]api.Edge, api.MaxEdges+1)}, {States: 2, Labels: 2, Edges: edges(0, 1, 2)}, {States: 2, Labels: 2, Edges: edges(0, 2, 1)}, {States: 2, Labels: 2, Edges: edges(-1, 1, 1)}, {States: 2, Labels: 2, Edges: edges(0, least, 1)}}
}

func TestP1504Refused(t *testing.T) {
	none := [][]api.Node{nil, {{Op: 2}}, {{Op: 1}, {Op: 1}}, {{Op: 1}, {Op: 4, Label: 201}}, {{Op: 3, Label: 9}}, slices.Repeat([]api.Node{{Op: 1}}, api.MaxFormula+1)}
	for _, f := range append(none, formula.True()) {
		for i, s := range noSystems() {
			// The system is looked at first.
			what := fmt.Sprint("the system ", i, ", ", f)
			holds, err := formula.Holds(s, f)
			isFault(t, what, err, api.ErrSystem, 0, 0, "formula", "system")
			is, err := formula.At(s, f, i-1)
			isFault(t, what, err, api.ErrSystem, 0, 0, "formula", "system")
			if len(holds) != 0 || is {
				t.Errorf("%s: %v, %v beside errors", what, holds, is)
			}
		}
	}
	for _, f := range none {
		// Then the formula, then the state.
		holds, err := formula.Holds(given(), f)
		isFault(t, fmt.Sprint(f), err, api.ErrFormula, 0, 0, "formula")
		for _, state := range []int{0, 4, -1} {
			is, err := formula.At(given(), f, state)
			isFault(t, fmt.Sprint(f), err, api.ErrFormula, 0, 0, "formula")
			if len(holds) != 0 || is {
				t.Errorf("%v: %v, %v beside errors", f, holds, is)
			}
		}
	}
	for _, state := range []int{4, 5, -1, least, greatest} {
		is, err := formula.At(given(), formula.True(), state)
		isFault(t, fmt.Sprint("the state ", state), err, api.ErrIndex, 0, 0, "formula")
		if is {
			t.Error("true beside an error")
		}
	}
	_, err := formula.At(api.System{Labels: 1}, formula.True(), 0)
	isFault(t, "no state", err, api.ErrIndex, 0, 0, "formula")
}

func TestP1505Made(t *testing.T) {
	equal(t, "True", formula.True(), tt().list())
	list := upToSize(4, 0, 200)
	for _, one := range list {
		f := one.list()
		got, err := formula.Not(f)
		equal(t, fmt.Sprint("Not ", err), got, not(one).list())
		for _, label := range []int{0, 1, 200} {
			got, err = formula.May(label, f)
			equal(t, fmt.Sprint("May ", err), got, may(label, one).list())
		}
		for _, other := range list {
			got, err = formula.And(f, other.list())
			equal(t, fmt.Sprint("And ", err), got, and(one, other).list())
		}
	}
}

func TestP1505Refused(t *testing.T) {
	good := formula.True()
	none := [][]api.Node{nil, {{Op: 2}}, {{Op: 1}, {Op: 1}}, {{Op: 1}, {Op: 1}, {Op: 1}, {Op: 3}}, {{Op: 1}, {Op: 4, Label: 201}}, {{Op: 1, Label: 1}}, {{Op: 5}}, slices.Repeat([]api.Node{{Op: 1}}, api.MaxFormula+1)}
	check := func(what string, end error) func([]api.Node, error) {
		return func(f []api.Node, err error) {
			t.Helper()
			isFault(t, what, err, end, 0, 0, "formula")
			equal(t, what+" beside an error", f, nil)
		}
	}
	for _, f := range none {
		check("Not", api.ErrFormula)(formula.Not(f))
		check("And", api.ErrFormula)(formula.And(f, good))
		check("And", api.ErrFormula)(formula.And(good, f))
		check("And", api.ErrFormula)(formula.And(f, f))
		check("May", api.ErrFormula)(formula.May(0, f))
		check("May", api.ErrFormula)(formula.May(200, f))
		// The label comes first.
		for _, label := range []int{-1, 201, least, greatest} {
			check("May", api.ErrIndex)(formula.May(label, f))
			check("May", api.ErrIndex)(formula.May(label, good))
		}
	}
	// Two lists that are none, of which the whole would be one.
	check("two beside none", api.ErrFormula)(formula.And([]api.Node{{Op: 1}, {Op: 1}}, nil))
	check("none beside two", api.ErrFormula)(formula.And(nil, []api.Node{{Op: 1}, {Op: 1}}))
	check("two, then a not", api.ErrFormula)(formula.And([]api.Node{{Op: 1}, {Op: 1}}, []api.Node{{Op: 2}}))
}

func TestP1505Limits(t *testing.T) {
	of := func(size int) []api.Node {
		return append(formula.True(), slices.Repeat([]api.Node{{Op: api.FormNot}}, size-1)...)
	}
	for _, size := range []int{1, 2, 2499, 4998, 4999, 5000} {
		for name, made := range map[string]func([]api.Node) ([]api.Node, error){"Not": formula.Not, "May": func(f []api.Node) ([]api.Node, error) { return formula.May(3, f) }} {
			f, err := made(of(size))
			if size == api.MaxFormula {
				isFault(t, fmt.Sprint(name, size), err, api.ErrFormula, 0, 0, "formula")
				equal(t, "beside an error", f, nil)
			} else if err != nil || len(f) != size+1 || !formula.Valid(f) {
				t.Errorf("%s of %d: %d, %v", name, size, len(f), err)
			}
		}
		for _, other := range []int{1, 2, 2499, 2500, 2501, 4998, 5000} {
			f, err := formula.And(of(size), of(other))
			if size+other+1 > api.MaxFormula {
				isFault(t, fmt.Sprint("And", size, other), err, api.ErrFormula, 0, 0, "formula")
				equal(t, "beside an error", f, nil)
			} else if err != nil || len(f) != size+other+1 || !formula.Valid(f) {
				t.Errorf("And of %d and %d: %d, %v", size, other, len(f), err)
			}
		}
	}
}

func TestP1506PrintedAndRead(t *testing.T) {
	x := &numbers{at: 100}
	list := upToSize(8, 3, 200)
	for range 2000 {
		list = append(list, x.tree(1+x.below(90), api.MaxLabels), x.deep(40+x.below(60)))
	}
	deep := 0
	for _, one := range list {
		f := one.list()
		text := printed(t, f)
		got, err := formula.Parse(text)
		if one.nesting() > api.MaxDepth {
			deep++
			if !errors.Is(err, api.ErrDeep) || got != nil {
				t.Fatalf("%s: %v, %v", text, got, err)
			}
			continue
		}
		if err != nil || !slices.Equal(got, f) {
			t.Fatalf("%s: %v, %v", text, got, err)
		}
		// What was read with more brackets and blanks than it needs is told by the one text.
		if spelt := x.spelt(one); read(spelt).err == nil {
			again := printed(t, parsed(t, spelt))
			if again != text || !slices.Equal(parsed(t, again), f) {
				t.Fatalf("%s: %s, not %s", spelt, again, text)
			}
		}
	}
	if deep < 200 || deep > 1800 {
		t.Errorf("%d are too deep", deep)
	}
}

func TestP1506Bisimilar(t *testing.T) {
	x := &numbers{at: 7}
	apart, together := 0, 0
	for range 150 {
		s := x.copied(x.system(1+x.below(5), 3, 10), 12)
		classes, err := strong.Classes(s)
		if err != nil {
			t.Fatal(err)
		}
		for range 40 {
			one := x.tree(1+x.below(20), 3)
			row := holding(t, s, one.list())
			for p := range row {
				for q := range p {
					switch {
					case row[p] != row[q] && classes[p] == classes[q]:
						t.Fatalf("%s in %v: %d and %d are bisimilar", one.text(), s, p, q)
					case row[p] != row[q]:
						apart++
					case classes[p] == classes[q]:
						together++
					}
				}
			}
		}
	}
	if apart < 1000 || together < 1000 {
		t.Errorf("%d pairs told apart, %d together", apart, together)
	}
}

func TestOfATerm(t *testing.T) {
	program, err := source.Parse("P = a.(b.0 + c.0)\nQ = a.b.0 + a.c.0\n")
	if err != nil {
		t.Fatal(err)
	}
	// a, b and c are 1, 3 and 5: behind one a both others may be done, behind two not.
	both := parsed(t, "<1>(<3>tt & <5>tt)")
	for name, want := range map[string]bool{"P": true, "Q": false} {
		id, err := program.Term(name)
		if err != nil {
			t.Fatal(err)
		}
		space, err := generate.From(program, id)
		if err != nil {
			t.Fatal(err)
		}
		if is, err := formula.At(space.System(), both, 0); err != nil || is != want {
			t.Errorf("%s: %v, %v", name, is, err)
		}
	}
}

func TestFaultsAreNew(t *testing.T) {
	for name, call := range map[string]func() error{
		"Print":  func() error { _, err := formula.Print(nil); return err },
		"Parse":  func() error { _, err := formula.Parse(""); return err },
		"words":  func() error { _, err := formula.Parse("!"); return err },
		"within": func() error { _, err := formula.Parse("~(tt"); return err },
		"Holds":  func() error { _, err := formula.Holds(api.System{}, nil); return err },
		"At":     func() error { _, err := formula.At(given(), formula.True(), 9); return err },
		"Not":    func() error { _, err := formula.Not(nil); return err },
		"And":    func() error { _, err := formula.And(nil, nil); return err },
		"May":    func() error { _, err := formula.May(-1, nil); return err },
	} {
		first, second := call(), call()
		var f *api.Fault
		if first == nil || first == second || !errors.As(first, &f) {
			t.Fatalf("%s: %v, then %v", name, first, second)
		}
		f.Err = api.ErrTwice
		if errors.Is(call(), api.ErrTwice) {
			t.Errorf("%s: a fault that was changed", name)
		}
	}
}

// spoil writes over a list, and over all room behind it.
func spoil[T any](list []T, with T) {
	list = list[:cap(list)]
	for i := range list {
		list[i] = with
	}
}

// roomy tells a copy of a list with spare room behind it, and the whole of that room.
func roomy[T any](list []T, behind T) ([]T, []T) {
	room := append(slices.Clone(list), behind, behind, behind)
	return room[:len(list)], room
}

func TestAnswersAreNew(t *testing.T) {
	const text = "~(<1>tt & <0>~tt) & tt"
	s := given()
	var edgeRoom []api.Edge
	s.Edges, edgeRoom = roomy(s.Edges, api.Edge{From: 77})
	f, room := roomy(parsed(t, text), api.Node{Op: 88})
	g, otherRoom := roomy(parsed(t, "<1>tt"), api.Node{Op: 99})
	edgesBefore, before, otherBefore := slices.Clone(edgeRoom), slices.Clone(room), slices.Clone(otherRoom)
	told := func(spoilt bool) string {
		all := fmt.Sprint(formula.Valid(f), formula.Depth(f), printed(t, f))
		made := func(list []api.Node, err error) {
			all += fmt.Sprint(list, err)
			if spoilt {
				spoil(list, api.Node{Op: -7})
			}
		}
		made(formula.True(), nil)
		made(formula.Parse(text))
		made(formula.Not(f))
		made(formula.And(f, g))
		made(formula.And(f, f))
		made(formula.May(1, g))
		holds := holding(t, s, f)
		all += fmt.Sprint(holds)
		if spoilt {
			spoil(holds, true)
		}
		is, err := formula.At(s, f, 1)
		return all + fmt.Sprint(is, err)
	}
	want := told(true)
	if got := told(false); got != want {
		t.Errorf("twice: %s, not %s", got, want)
	}
	equal(t, "the edges that were handed in", edgeRoom, edgesBefore)
	equal(t, "the formula that was handed in", room, before)
	equal(t, "the other one that was handed in", otherRoom, otherBefore)
}
