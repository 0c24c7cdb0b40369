package distinguish_test

import (
	"errors"
	"fmt"
	"slices"
	"strings"
	"sync"
	"testing"

	"semblance/api"
	"semblance/distinguish"
	"semblance/formula"
	"semblance/rounds"
	"semblance/strong"
	"semblance/system"
)

// formulaOf tells the formula of two states that have one.
func formulaOf(t *testing.T, s api.System, p, q int) []api.Node {
	t.Helper()
	f, err := distinguish.Formula(s, p, q)
	if err != nil {
		t.Fatal(s, p, q, err)
	}
	return f
}

// sizeOf tells the size of two states of a system.
func sizeOf(t *testing.T, s api.System, p, q int) int {
	t.Helper()
	size, err := distinguish.Size(s, p, q)
	if err != nil {
		t.Fatal(s, p, q, err)
	}
	return size
}

// printed fails, unless the formula of two states has a text.
func printed(t *testing.T, s api.System, p, q int, want string) {
	t.Helper()
	got, err := formula.Print(formulaOf(t, s, p, q))
	if got != want || err != nil {
		t.Errorf("the formula of %d and %d: %s, %v, not %s", p, q, got, err, want)
	}
}

// isFault fails, unless err is a chain of faults of these layers, none with a place, down to one of api's errors.
func isFault(t *testing.T, what string, err, end error, layers ...string) {
	t.Helper()
	at := err
	for _, layer := range layers {
		f, ok := at.(*api.Fault)
		if !ok || f.Layer != layer || f.Line != 0 || f.Col != 0 {
			t.Errorf("%s: %#v, no fault of %s", what, at, layer)
			return
		}
		at = f.Err
	}
	if at != end || !errors.Is(err, end) || api.Code(err) != api.Code(end) {
		t.Errorf("%s: %v, not %v", what, err, end)
	}
}

// isZero tells whether a verdict tells nothing.
func isZero(v api.Verdict) bool { return !v.Same && len(v.Classes) == 0 && len(v.Formula) == 0 }

// refused fails, unless all calls refuse a system and two numbers with an error, and tell nothing beside it.
func refused(t *testing.T, what string, s api.System, p, q int, end error, layers ...string) {
	t.Helper()
	what = fmt.Sprint(what, ", ", p, " and ", q)
	size, err := distinguish.Size(s, p, q)
	isFault(t, what+": Size", err, end, layers...)
	f, err := distinguish.Formula(s, p, q)
	isFault(t, what+": Formula", err, end, layers...)
	v, err := distinguish.Compare(s, p, q)
	isFault(t, what+": Compare", err, end, layers...)
	if size != 0 || len(f) > 0 || !isZero(v) {
		t.Errorf("%s: %d, %v, %v beside an error", what, size, f, v)
	}
}

// alike fails, unless all calls tell that two states are bisimilar.
func alike(t *testing.T, s api.System, p, q int, classes []int) {
	t.Helper()
	what := fmt.Sprint(p, " and ", q)
	if size := sizeOf(t, s, p, q); size != 0 {
		t.Errorf("%s: Size: %d", what, size)
	}
	f, err := distinguish.Formula(s, p, q)
	isFault(t, what+": Formula", err, api.ErrNone, "distinguish")
	v, err := distinguish.Compare(s, p, q)
	if len(f) > 0 || err != nil || !v.Same || len(v.Formula) > 0 || !slices.Equal(v.Classes, classes) {
		t.Errorf("%s: %v; %v, %v, not of the classes %v", what, f, v, err, classes)
	}
}

// apart fails, unless all calls tell that two states have this formula.
func apart(t *testing.T, s api.System, p, q int, want []api.Node) {
	t.Helper()
	if size := sizeOf(t, s, p, q); size != len(want) {
		t.Errorf("%d and %d: Size: %d, not %d", p, q, size, len(want))
	}
	if f := formulaOf(t, s, p, q); !slices.Equal(f, want) {
		t.Errorf("%d and %d of %v: %v, not %v", p, q, s, f, want)
	}
	v, err := distinguish.Compare(s, p, q)
	if err != nil || v.Same || len(v.Classes) > 0 || !slices.Equal(v.Formula, want) {
		t.Errorf("%d and %d: %v, %v, not %v", p, q, v, err, want)
	}
}

// beyond fails, unless all calls tell that the formula of two states is too great.
func beyond(t *testing.T, s api.System, p, q int) {
	t.Helper()
	what := fmt.Sprint(p, " and ", q, " of ", s.States)
	if size := sizeOf(t, s, p, q); size != maxFormula+1 {
		t.Errorf("%s: Size: %d", what, size)
	}
	f, err := distinguish.Formula(s, p, q)
	isFault(t, what+": Formula", err, api.ErrLimit, "distinguish")
	v, err := distinguish.Compare(s, p, q)
	isFault(t, what+": Compare", err, api.ErrLimit, "distinguish")
	if len(f) > 0 || !isZero(v) {
		t.Errorf("%s: %v, %v beside an error", what, f, v)
	}
}

// bound fails, unless a bound is told.
func bound(t *testing.T, depth, degree, want int) {
	t.Helper()
	if got := distinguish.Bound(depth, degree); got != want {
		t.Errorf("Bound(%d, %d): %d, not %d", depth, degree, got, want)
	}
}

func TestP1601AsTheWordsHaveIt(t *testing.T) {
	degrees := []int{least, least + 1, -1 << 32, 70, 71, 100, 1249, 1250, 1665, 1666, 1667, 2498, 2499, 2500, 2501, 4999, 5000, 5001, 1 << 31, 1 << 32, 1 << 61, 1 << 62, greatest - 1, greatest}
	for degree := range 70 {
		degrees = append(degrees, degree-5)
	}
	for _, degree := range degrees {
		for depth := -3; depth < 30; depth++ {
			bound(t, depth, degree, boundOf(depth, degree))
		}
	}
	for depth := range 2600 {
		bound(t, depth, 1, min(2*depth+1, 5001))
	}
}

func TestP1601Given(t *testing.T) {
	bound(t, 0, 5, 1)
	bound(t, 1, 2, 5)
	bound(t, 2, 2, 13)
	bound(t, 1, 0, 3)
	bound(t, 99, 9, 5001)
}

func TestP1601AtTheEdges(t *testing.T) {
	// A depth below 1 is asked for ahead of a degree below 1.
	for _, depth := range []int{least, -1, 0} {
		for _, degree := range []int{least, -1, 0, 1, greatest} {
			bound(t, depth, degree, 1)
		}
	}
	for _, depth := range []int{1, 2, 1 << 40, greatest} {
		for _, degree := range []int{least, -1, 0} {
			bound(t, depth, degree, 3)
		}
	}
	bound(t, 2499, 1, 4999)
	bound(t, 2500, 1, 5001)
	bound(t, 1, 2499, 4999)
	bound(t, 1, 2500, 5001)
	for _, degree := range []int{1, 2, 3, 5000, 1 << 32, 1 << 62, greatest} {
		bound(t, greatest, degree, 5001)
		bound(t, 1<<62, degree, 5001)
	}
	// Products that wrap round to little.
	bound(t, 1, 1<<63-1, 5001)
	bound(t, 1, 1<<62, 5001)
	bound(t, 2, 1<<62+1, 5001)
}

func TestP1602AsTheWordsHaveIt(t *testing.T) {
	for _, s := range several() {
		m := partingOf(s)
		classes := m.classes()
		for p := range s.States {
			for q := range s.States {
				switch size := m.size(p, q); {
				case size == 0:
					alike(t, s, p, q, classes)
				case size > maxFormula:
					beyond(t, s, p, q)
				default:
					apart(t, s, p, q, m.formula(p, q))
				}
			}
		}
		if t.Failed() {
			t.Fatal(s)
		}
	}
}

func TestP1602Given(t *testing.T) {
	s := given()
	printed(t, s, 0, 1, "<1><1>tt")
	printed(t, s, 1, 0, "<1>~<1>tt")
	printed(t, s, 2, 0, "~<1>tt")
	printed(t, s, 0, 2, "<1>tt")
	printed(t, s, 3, 2, "<1>tt")
	printed(t, s, 2, 3, "~<1>tt")
}

func TestP1602FirstStepThatTells(t *testing.T) {
	// By rising label, whatever the order of the edges, the silent label as any other.
	s := api.System{States: 3, Labels: 4, Edges: edges(0, 3, 2, 0, 2, 2, 0, 1, 2, 1, 1, 2)}
	printed(t, s, 0, 1, "<2>tt")
	s.Edges = append(s.Edges, edge(0, 0, 2))
	printed(t, s, 0, 1, "<0>tt")
	// Then by rising state: 0 steps to 2 and 3, each of which 1 has no like of.
	s = api.System{States: 5, Labels: 4, Edges: edges(0, 1, 3, 0, 1, 2, 1, 1, 4, 2, 2, 4, 3, 3, 4)}
	printed(t, s, 0, 1, "<1><2>tt")
	s = api.System{States: 5, Labels: 4, Edges: edges(0, 1, 3, 0, 1, 2, 1, 1, 4, 2, 3, 4, 3, 2, 4)}
	printed(t, s, 0, 1, "<1><3>tt")
	// The label goes ahead of the state.
	s = api.System{States: 5, Labels: 4, Edges: edges(0, 1, 3, 0, 2, 2, 1, 1, 4, 1, 2, 4, 2, 2, 4, 3, 3, 4)}
	printed(t, s, 0, 1, "<1><3>tt")
}

func TestP1602RankBelow(t *testing.T) {
	// The step 1 leads to unlike states, too, but these are told apart too late: the states' rank is 1.
	s := api.System{States: 8, Labels: 3, Edges: edges(0, 1, 3, 1, 1, 4, 0, 2, 6, 3, 1, 4, 4, 1, 5, 5, 1, 6)}
	printed(t, s, 0, 1, "<2>tt")
	printed(t, s, 1, 0, "~<2>tt")
	// Of several ends each one is to be told apart, and below the rank, which is 2: 3 is not from 2 below 2, though 7 is.
	s = api.System{States: 8, Labels: 3, Edges: edges(0, 1, 2, 0, 2, 2, 1, 1, 3, 1, 1, 7, 1, 2, 7, 2, 1, 5, 3, 1, 6, 5, 1, 7)}
	printed(t, s, 0, 1, "<2><1>tt")
	// Here 4 is not from 2 at all.
	s = api.System{States: 8, Labels: 3, Edges: edges(0, 1, 2, 0, 2, 2, 1, 1, 4, 1, 1, 7, 1, 2, 7, 2, 1, 5, 4, 1, 6)}
	printed(t, s, 0, 1, "<2><1>tt")
}

func TestP1602Not(t *testing.T) {
	// A not stands only where no step of the first state tells, though one of the second does, and is ahead by its label.
	s := api.System{States: 3, Labels: 3, Edges: edges(0, 2, 2, 1, 1, 2)}
	printed(t, s, 0, 1, "<2>tt")
	printed(t, s, 1, 0, "<1>tt")
	s.Edges = edges(0, 2, 2, 1, 1, 2, 1, 2, 2)
	printed(t, s, 0, 1, "~<1>tt")
	// 1 steps to 2 alone, 0 to 2 and 3: each step of 1 is met.
	s = api.System{States: 5, Labels: 3, Edges: edges(0, 1, 2, 0, 1, 3, 1, 1, 2, 2, 1, 4, 3, 2, 4)}
	printed(t, s, 0, 1, "<1><2>tt")
	printed(t, s, 1, 0, "~<1><2>tt")
	// Nots within nots.
	s.Edges = s.Edges[:4]
	printed(t, s, 0, 1, "<1>~<1>tt")
	printed(t, s, 1, 0, "~<1>~<1>tt")
}

func TestP1602Ands(t *testing.T) {
	// Each end once, by rising state, and to the left, though formulas come in another order.
	s := api.System{States: 7, Labels: 6, Edges: edges(0, 1, 2, 1, 1, 3, 1, 1, 4, 1, 1, 5, 1, 1, 3)}
	all := func(state int, labels ...int) {
		for _, label := range labels {
			s.Edges = append(s.Edges, edge(state, label, 6))
		}
	}
	all(2, 2, 3, 4, 5)
	all(3, 2, 3, 5)
	all(4, 3, 4, 5)
	all(5, 2, 4, 5)
	printed(t, s, 0, 1, "<1>(<4>tt & <2>tt & <3>tt)")
	printed(t, s, 1, 0, "<1>~<4>tt")
	// One that stands already is left out, wherever it stands.
	s.Edges = s.Edges[:4]
	all(2, 2, 3, 4, 5)
	all(3, 2, 3, 5)
	all(4, 3, 4, 5)
	all(5, 2, 3)
	printed(t, s, 0, 1, "<1>(<4>tt & <2>tt)")
	s.Edges = s.Edges[:4]
	all(2, 2, 3)
	all(3, 2)
	all(4, 2)
	all(5, 2)
	printed(t, s, 0, 1, "<1><3>tt")
	// Ends that can't be told apart from each other have one formula; the parts may be nots.
	s.Edges = s.Edges[:4]
	all(3, 2)
	all(4, 3)
	all(5, 2)
	printed(t, s, 0, 1, "<1>(~<2>tt & ~<3>tt)")
}

func TestP1602AndsOfAnds(t *testing.T) {
	s := doubling(2)
	inner := func(a string) string { return "<1>(" + a + ") & <2>(" + a + ")" }
	printed(t, s, 6, 7, "<1>tt")
	printed(t, s, 6, 8, "<2>tt")
	printed(t, s, 3, 4, "<1>(<1>tt & <2>tt)")
	printed(t, s, 3, 5, "<2>(<1>tt & <2>tt)")
	printed(t, s, 0, 1, "<1>("+inner("<1>tt & <2>tt")+")")
	printed(t, s, 0, 2, "<2>("+inner("<1>tt & <2>tt")+")")
	apart(t, sums(0, 1, 3), 0, 1, list(t, "<1>(<1>tt & <1><1>tt & <1><1><1><1>tt)"))
	apart(t, sums(0, 1, 3), 1, 0, list(t, "~<1>(<1>tt & <1><1>tt & <1><1><1><1>tt)"))
}

// list tells the nodes of a text.
func list(t *testing.T, text string) []api.Node {
	t.Helper()
	f, err := formula.Parse(text)
	if err != nil {
		t.Fatal(text, err)
	}
	return f
}

func TestP1602HowItStands(t *testing.T) {
	// Neither the start, nor the order of the edges, nor that one stands twice is to be seen.
	x := &numbers{at: 5}
	for range 40 {
		s := x.system(2+x.below(7), 3, 24)
		turned := s
		turned.Start = s.States - 1
		turned.Edges = slices.Concat(s.Edges, s.Edges)
		slices.Reverse(turned.Edges)
		for p := range s.States {
			for q := range s.States {
				v, err := distinguish.Compare(s, p, q)
				w, err2 := distinguish.Compare(turned, p, q)
				if fmt.Sprint(v, err) != fmt.Sprint(w, err2) {
					t.Errorf("%d and %d of %v: %v, %v, turned: %v, %v", p, q, s, v, err, w, err2)
				}
			}
		}
	}
}

func TestP1603SystemsThatAreNone(t *testing.T) {
	for what, s := range noSystems() {
		// What offends in a system is told ahead of what is no state of it, and of how many states there are.
		for _, p := range []int{0, 1, 2, -1, maxPairs + 1, greatest, least} {
			refused(t, what, s, p, 0, api.ErrSystem, "distinguish", "system")
			refused(t, what, s, 0, p, api.ErrSystem, "distinguish", "system")
			refused(t, what, s, p, p, api.ErrSystem, "distinguish", "system")
		}
	}
}

func TestP1603NoState(t *testing.T) {
	for _, s := range []api.System{given(), {Labels: 1}, {States: 1, Labels: 1}, chain(maxPairs), chain(maxPairs + 1), {States: api.MaxStates, Labels: 1}} {
		what := fmt.Sprint(s.States, " states")
		for _, none := range []int{least, -1000, -1, s.States, s.States + 1, 1001, greatest} {
			refused(t, what, s, none, none, api.ErrIndex, "distinguish")
			refused(t, what, s, none, -none, api.ErrIndex, "distinguish")
			if s.States > 0 {
				refused(t, what, s, 0, none, api.ErrIndex, "distinguish")
				refused(t, what, s, none, s.States-1, api.ErrIndex, "distinguish")
			}
		}
	}
	refused(t, "no state", api.System{Labels: 1}, 0, 0, api.ErrIndex, "distinguish")
}

func TestP1603ManyStates(t *testing.T) {
	for _, states := range []int{maxPairs + 1, api.MaxStates} {
		for _, s := range []api.System{chain(states), {States: states, Labels: 1}} {
			what := fmt.Sprint(states, " states")
			refused(t, what, s, 0, 1, api.ErrLong, "distinguish")
			refused(t, what, s, states-1, 0, api.ErrLong, "distinguish")
			refused(t, what, s, 2, 2, api.ErrLong, "distinguish")
		}
	}
	alike(t, api.System{States: maxPairs, Labels: 1}, 0, maxPairs-1, make([]int, maxPairs))
	// The state i goes on for 299 - i steps.
	s := chain(maxPairs)
	apart(t, s, 298, 299, list(t, "<1>tt"))
	f := formulaOf(t, s, 0, 1)
	if len(f) != 300 || f[0].Op != api.FormTrue || slices.ContainsFunc(f[1:], func(n api.Node) bool { return n != api.Node{Op: api.FormMay, Label: 1} }) {
		t.Errorf("the ends of a chain: %v", f)
	}
	apart(t, s, 1, 0, slices.Concat(list(t, "~<1>tt"), f[1:299]))
}

func TestP1603Bisimilar(t *testing.T) {
	alike(t, given(), 1, 3, []int{0, 1, 2, 1})
	alike(t, given(), 3, 1, []int{0, 1, 2, 1})
	alike(t, given(), 0, 0, []int{0, 1, 2, 1})
	alike(t, api.System{States: 1, Labels: 1, Edges: edges(0, 0, 0)}, 0, 0, []int{0})
	alike(t, api.System{States: 3, Labels: 1}, 2, 0, []int{0, 0, 0})
	// Of a system with formulas that are too great, too.
	classes := make([]int, 36)
	for state := range classes {
		if state%3 > 0 {
			classes[state] = state/3*2 + state%3
		}
	}
	alike(t, doubling(11), 5, 5, classes)
	alike(t, doubling(11), 0, 33, classes)
}

func TestP1603AtTheLimit(t *testing.T) {
	for nodes := maxFormula - 3; nodes <= maxFormula+3; nodes++ {
		heights := heightsOf(nodes)
		s := sums(heights...)
		if nodes > maxFormula {
			beyond(t, s, 0, 1)
			beyond(t, s, 1, 0)
			continue
		}
		f := list(t, "tt")
		var all []api.Node
		for i, height := range heights {
			for len(f) < height+2 {
				f = append(f, api.Node{Op: api.FormMay, Label: 1})
			}
			all = append(all, f...)
			if i > 0 {
				all = append(all, api.Node{Op: api.FormAnd})
			}
		}
		all = append(all, api.Node{Op: api.FormMay, Label: 1})
		if len(all) != nodes {
			t.Fatalf("a formula of %d nodes, not %d", len(all), nodes)
		}
		apart(t, s, 0, 1, all)
		// The not makes one more.
		if nodes == maxFormula {
			beyond(t, s, 1, 0)
			continue
		}
		apart(t, s, 1, 0, append(slices.Clone(all), api.Node{Op: api.FormNot}))
	}
}

func TestP1603TooGreat(t *testing.T) {
	// The formula of the first two states of a floor, so many floors ahead of the last one, has 2^(floors + 2) - 2 nodes; the other way round it takes one end alone.
	s := doubling(99)
	for _, floors := range []int{0, 1, 5, 9, 10, 11, 12, 30, 61, 62, 63, 64, 98, 99} {
		here := 3 * (99 - floors)
		if size := sizeOf(t, s, here+1, here); size != floors+3 {
			t.Errorf("%d floors, the other way round: %d", floors, size)
		}
		if floors > 10 {
			beyond(t, s, here, here+1)
			beyond(t, s, here, here+2)
			continue
		}
		size := 1<<(floors+2) - 2
		if got := sizeOf(t, s, here, here+1); got != size {
			t.Errorf("%d floors: %d, not %d", floors, got, size)
		}
		if f := formulaOf(t, s, here, here+2); len(f) != size {
			t.Errorf("%d floors: %d nodes, not %d", floors, len(f), size)
		}
	}
}

func TestP1604Given(t *testing.T) {
	v, err := distinguish.Compare(given(), 1, 3)
	if fmt.Sprint(v) != "{true [0 1 2 1] []}" || err != nil {
		t.Error(v, err)
	}
	v, err = distinguish.Compare(given(), 0, 1)
	if fmt.Sprint(v) != "{false [] [{1 0} {4 1} {4 1}]}" || err != nil {
		t.Error(v, err)
	}
	// Classes are those of all states, also of those that can't be reached.
	s := api.System{States: 6, Labels: 2, Start: 5, Edges: edges(0, 1, 2, 1, 1, 3, 4, 0, 4)}
	alike(t, s, 0, 1, []int{0, 0, 1, 1, 2, 1})
	alike(t, s, 5, 2, []int{0, 0, 1, 1, 2, 1})
}

// consequences fails, unless what is told of two states is as W6 has it; it tells whether they have a formula.
func consequences(t *testing.T, s api.System, p, q int, most int) bool {
	t.Helper()
	what := fmt.Sprint(p, " and ", q, " of ", s.States)
	v, err := distinguish.Compare(s, p, q)
	rank, err2 := rounds.Rank(s, p, q)
	switch {
	case err2 != nil:
		t.Fatal(what, err2)
	case errors.Is(err, api.ErrLimit):
		if most <= maxFormula || rank < 0 {
			t.Errorf("%s: %v, the bound being %d, the rank %d", what, err, most, rank)
		}
		return false
	case err != nil:
		t.Fatal(what, err)
	case v.Same:
		if rank != -1 || v.Classes[p] != v.Classes[q] || !system.Classes(s, v.Classes) {
			t.Errorf("%s: %v, the rank being %d", what, v, rank)
		}
		return false
	}
	f := v.Formula
	holds, err := formula.Holds(s, f)
	if err != nil || !holds[p] || holds[q] {
		t.Errorf("%s: %v is told where it holds: %v, %v", what, f, holds, err)
	}
	if formula.Depth(f) != rank || most <= maxFormula && len(f) > most {
		t.Errorf("%s: %v of the depth %d and %d nodes, not %d and %d", what, f, formula.Depth(f), len(f), rank, most)
	}
	return true
}

// mostOf tells how many nodes a formula of a system has at most.
func mostOf(t *testing.T, s api.System) int {
	t.Helper()
	graph, err := system.New(s)
	if err != nil {
		t.Fatal(s, err)
	}
	return distinguish.Bound(s.States-1, graph.Degree())
}

func TestP1605Several(t *testing.T) {
	for _, s := range several() {
		most := mostOf(t, s)
		for p := range s.States {
			for q := range s.States {
				consequences(t, s, p, q, most)
			}
		}
	}
}

func TestP1605Great(t *testing.T) {
	x := &numbers{at: 6}
	for i, s := range great() {
		most := mostOf(t, s)
		many := 0
		for range 25 {
			if consequences(t, s, x.below(s.States), x.below(s.States), most) {
				many++
			}
		}
		t.Logf("the great system %d: %d formulas of 25", i, many)
	}
}

func TestP1605BoundIsMet(t *testing.T) {
	s := api.System{States: 2, Labels: 1, Edges: edges(0, 0, 0)}
	apart(t, s, 1, 0, list(t, "~<0>tt"))
	if most := mostOf(t, s); most != 3 {
		t.Errorf("the bound: %d", most)
	}
}

func TestW6ClassesAreABisimulation(t *testing.T) {
	for _, s := range several() {
		classes, err := strong.Classes(s)
		if err != nil {
			t.Fatal(s, err)
		}
		for p := range s.States {
			v, err := distinguish.Compare(s, p, p)
			if err != nil || !v.Same || !slices.Equal(v.Classes, classes) {
				t.Errorf("%d of %v: %v, %v, not %v", p, s, v, err, classes)
			}
		}
	}
}

// told tells what all calls answer, as a text.
func told(s api.System, p, q int) string {
	size, err := distinguish.Size(s, p, q)
	f, err2 := distinguish.Formula(s, p, q)
	v, err3 := distinguish.Compare(s, p, q)
	return fmt.Sprint(size, err, f, err2, v, err3)
}

func TestWhatIsHandedIn(t *testing.T) {
	// Edges in no order, with room behind them that is not to be written to.
	room := edges(2, 2, 5, 0, 1, 5, 0, 1, 2, 1, 1, 4, 1, 1, 3, 1, 1, 5, 4, 2, 5, 2, 1, 5, 3, 1, 5, 3, 1, 5, 9, 9, 9, 8, 8, 8)
	before := slices.Clone(room)
	s := api.System{States: 6, Labels: 3, Edges: room[:len(room)-2]}
	for p := range 6 {
		for q := range 6 {
			told(s, p, q)
		}
	}
	if !slices.Equal(room, before) {
		t.Errorf("what was handed in: %v, not %v", room, before)
	}
}

func TestWhatIsAnswered(t *testing.T) {
	s := doubling(3)
	first := told(s, 0, 1) + told(s, 4, 4)
	for range 3 {
		f := formulaOf(t, s, 0, 1)
		v, _ := distinguish.Compare(s, 0, 1)
		w, _ := distinguish.Compare(s, 4, 4)
		for _, nodes := range [][]api.Node{f[:cap(f)], v.Formula[:cap(v.Formula)]} {
			for i := range nodes {
				nodes[i] = api.Node{Op: -1, Label: -1}
			}
		}
		for i := range w.Classes {
			w.Classes[i] = -1
		}
		if again := told(s, 0, 1) + told(s, 4, 4); again != first {
			t.Fatalf("%s, not %s", again, first)
		}
	}
	if strings.Contains(first, "-1") {
		t.Error(first)
	}
}

func TestSideBySide(t *testing.T) {
	s := doubling(6)
	want := told(s, 0, 2) + told(s, 3, 6)
	var all sync.WaitGroup
	got := make([]string, 8)
	for i := range got {
		all.Go(func() { got[i] = told(s, 0, 2) + told(s, 3, 6) })
	}
	all.Wait()
	for _, text := range got {
		if text != want {
			t.Errorf("%s, not %s", text, want)
		}
	}
}

func TestFaultsAreNew(t *testing.T) {
	none, far, limit := api.System{}, api.System{States: maxPairs + 1, Labels: 1}, doubling(11)
	calls := []func() error{
		func() error { _, err := distinguish.Size(none, 0, 0); return err },
		func() error { _, err := distinguish.Formula(none, 0, 0); return err },
		func() error { _, err := distinguish.Compare(none, 0, 0); return err },
		func() error { _, err := distinguish.Size(given(), 0, 4); return err },
		func() error { _, err := distinguish.Compare(far, 0, 4); return err },
		func() error { _, err := distinguish.Formula(given(), 1, 3); return err },
		func() error { _, err := distinguish.Formula(limit, 0, 1); return err },
		func() error { _, err := distinguish.Compare(limit, 0, 1); return err },
	}
	for i, call := range calls {
		first, second := call(), call()
		if first == second || i < 3 && errors.Unwrap(first) == errors.Unwrap(second) {
			t.Errorf("the call %d: the same fault twice", i)
		}
		var f *api.Fault
		if !errors.As(first, &f) {
			t.Fatalf("the call %d: %v is no fault", i, first)
		}
		f.Err = api.ErrDeep
		if errors.Is(call(), api.ErrDeep) {
			t.Errorf("the call %d: a fault that was changed", i)
		}
	}
}
