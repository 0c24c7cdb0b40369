package weak_test

import (
	"errors"
	"fmt"
	"slices"
	"testing"

	"semblance/api"
	"semblance/branching"
	"semblance/generate"
	"semblance/source"
	"semblance/strong"
	"semblance/system"
	"semblance/weak"
)

// equal fails, unless two lists are the same; nil and empty are one.
func equal[T comparable](t *testing.T, what string, got, want []T) {
	t.Helper()
	if !slices.Equal(got, want) {
		t.Errorf("%s: %v, not %v", what, got, want)
	}
}

// equalRows fails, unless two lists of lists are the same.
func equalRows(t *testing.T, what string, got, want [][]int) {
	t.Helper()
	if !slices.EqualFunc(got, want, slices.Equal[[]int]) {
		t.Errorf("%s: %v, not %v", what, got, want)
	}
}

// silentOf tells Silent of a system that has it.
func silentOf(t *testing.T, s api.System) [][]int {
	t.Helper()
	rows, err := weak.Silent(s)
	if err != nil {
		t.Fatal(s, err)
	}
	return rows
}

// saturatedOf tells Saturate of a system that has it.
func saturatedOf(t *testing.T, s api.System) api.System {
	t.Helper()
	full, err := weak.Saturate(s)
	if err != nil {
		t.Fatal(s, err)
	}
	return full
}

// classesOf tells Classes of a system that has them.
func classesOf(t *testing.T, s api.System) []int {
	t.Helper()
	classes, err := weak.Classes(s)
	if err != nil {
		t.Fatal(s, err)
	}
	return classes
}

// calls are the calls of the package, of which what they answer beside an error is told as a text.
func calls() map[string]func(api.System) (string, error) {
	same := func(p, q int) func(api.System) (string, error) {
		return func(s api.System) (string, error) {
			is, err := weak.Same(s, p, q)
			return fmt.Sprint(is), err
		}
	}
	return map[string]func(api.System) (string, error){
		"Silent": func(s api.System) (string, error) {
			rows, err := weak.Silent(s)
			return fmt.Sprint(rows), err
		},
		"Saturate": func(s api.System) (string, error) {
			full, err := weak.Saturate(s)
			full.Start = 0
			return fmt.Sprint(full), err
		},
		"Classes": func(s api.System) (string, error) {
			classes, err := weak.Classes(s)
			return fmt.Sprint(classes), err
		},
		"Same":           same(0, 0),
		"Same, others":   same(1, 0),
		"Same, below":    same(-1, 0),
		"Same, far":      same(0, greatest),
		"Same, far down": same(least, least),
	}
}

// isNothing tells whether a text is one of a zero value.
func isNothing(told string) bool { return slices.Contains([]string{"[]", "{0 0 0 []}", "false"}, told) }

// handedOn fails, unless err is a fault of this layer around one of system, neither with a place, around ErrSystem.
func handedOn(t *testing.T, what string, err error) {
	t.Helper()
	outer, ok := err.(*api.Fault)
	if !ok || outer.Layer != "weak" || outer.Line != 0 || outer.Col != 0 {
		t.Errorf("%s: %#v, no fault of weak", what, err)
		return
	}
	inner, ok := outer.Err.(*api.Fault)
	if !ok || *inner != (api.Fault{Layer: "system", Err: api.ErrSystem}) {
		t.Errorf("%s: it wraps %#v, not system's ErrSystem", what, outer.Err)
	}
	if !errors.Is(err, api.ErrSystem) || api.Code(err) != 14 {
		t.Errorf("%s: %v is told as %d", what, err, api.Code(err))
	}
}

// ownFault fails, unless err is a fault of this layer alone, without a place, around one of api's errors.
func ownFault(t *testing.T, what string, err, want error) {
	t.Helper()
	if f, is := err.(*api.Fault); !is || *f != (api.Fault{Layer: "weak", Err: want}) || api.Code(err) != api.Code(want) {
		t.Errorf("%s: %#v, not %v", what, err, want)
	}
}

func TestSystemsThatAreNone(t *testing.T) {
	for name, call := range calls() {
		for what, s := range noSystems() {
			told, err := call(s)
			handedOn(t, name+": "+what, err)
			if !isNothing(told) {
				t.Errorf("%s: %s: %s beside an error", name, what, told)
			}
		}
	}
}

func TestTooManyStates(t *testing.T) {
	for name, call := range calls() {
		for _, states := range []int{301, 302, 320, 999, 1000} {
			what := fmt.Sprint(name, " of ", states, " states")
			// Whether there are too many weak steps, or no such states, is not asked any more.
			for _, s := range []api.System{{States: states, Labels: 1}, chain(states, 0), chain(states, 1)} {
				told, err := call(s)
				ownFault(t, what, err, api.ErrLong)
				if !isNothing(told) {
					t.Errorf("%s: %s beside an error", what, told)
				}
			}
		}
	}
	s := api.System{States: api.MaxPairs, Labels: api.MaxLabels, Start: 299}
	if got := silentOf(t, s); len(got) != 300 {
		t.Errorf("Silent of 300 states: %d rows", len(got))
	}
	if got := saturatedOf(t, s); len(got.Edges) != 300 {
		t.Errorf("Saturate of 300 states: %d edges", len(got.Edges))
	}
	equal(t, "Classes of 300 states", classesOf(t, s), make([]int, 300))
	if is, err := weak.Same(s, 0, 299); !is || err != nil {
		t.Errorf("Same of 300 states: %v, %v", is, err)
	}
}

func TestFaultsAreNew(t *testing.T) {
	for name, call := range calls() {
		for _, s := range []api.System{{}, {States: 301, Labels: 1}, chain(300, 0)} {
			_, first := call(s)
			_, second := call(s)
			if first == nil {
				continue
			}
			var f *api.Fault
			if first == second || !errors.As(first, &f) {
				t.Fatalf("%s: %v, then %v", name, first, second)
			}
			f.Err = api.ErrDeep
			if _, err := call(s); errors.Is(err, api.ErrDeep) {
				t.Errorf("%s: a fault that was changed", name)
			}
		}
	}
}

func TestP1301Given(t *testing.T) {
	equalRows(t, "the example", silentOf(t, given()), [][]int{{0, 1}, {1}, {2}, {3}})
	equalRows(t, "no state", silentOf(t, api.System{Labels: 1}), nil)
	equalRows(t, "no step", silentOf(t, api.System{States: 2, Labels: 1, Start: 1}), [][]int{{0}, {1}})
	equalRows(t, "a loop", silentOf(t, api.System{States: 2, Labels: 1, Edges: edges(1, 0, 1)}), [][]int{{0}, {1}})
	// Steps that are not silent lead nowhere here, and close no cycle.
	equalRows(t, "labels", silentOf(t, api.System{States: 3, Labels: 2, Edges: edges(0, 0, 1, 1, 1, 2, 2, 0, 0)}), [][]int{{0, 1}, {1}, {0, 1, 2}})
	// Ways through states that come later, or earlier, and round.
	equalRows(t, "down", silentOf(t, api.System{States: 4, Labels: 1, Edges: edges(3, 0, 2, 2, 0, 1, 1, 0, 0)}), [][]int{{0}, {0, 1}, {0, 1, 2}, {0, 1, 2, 3}})
	equalRows(t, "there and back", silentOf(t, api.System{States: 5, Labels: 1, Edges: edges(0, 0, 4, 4, 0, 1, 1, 0, 3, 3, 0, 2)}), [][]int{{0, 1, 2, 3, 4}, {1, 2, 3}, {2}, {2, 3}, {1, 2, 3, 4}})
	equalRows(t, "round", silentOf(t, api.System{States: 4, Labels: 1, Edges: edges(0, 0, 2, 2, 0, 1, 1, 0, 0, 1, 0, 3)}), [][]int{{0, 1, 2, 3}, {0, 1, 2, 3}, {0, 1, 2, 3}, {3}})
}

func TestP1301AsTheWordsHaveIt(t *testing.T) {
	for i, s := range append(several(), great()...) {
		equalRows(t, fmt.Sprint("the system ", i), silentOf(t, s), weaklyOf(s).silent)
		if t.Failed() {
			return
		}
	}
}

// alike fails, unless a system is s with other edges.
func alike(t *testing.T, what string, got, s api.System, edges []api.Edge) {
	t.Helper()
	if got.States != s.States || got.Labels != s.Labels || got.Start != s.Start || !slices.Equal(got.Edges, edges) {
		t.Errorf("%s: %v, not %v of %v", what, got, edges, s)
	}
}

func TestP1302Given(t *testing.T) {
	alike(t, "the example", saturatedOf(t, given()), given(), edges(0, 0, 0, 0, 0, 1, 0, 1, 2, 1, 0, 1, 1, 1, 2, 2, 0, 2, 3, 0, 3, 3, 1, 2))
	s := api.System{Labels: 7}
	alike(t, "no state", saturatedOf(t, s), s, nil)
	s = api.System{States: 2, Labels: 1, Start: 1, Edges: edges(1, 0, 1, 1, 0, 1)}
	alike(t, "a loop", saturatedOf(t, s), s, edges(0, 0, 0, 1, 0, 1))
	// Silent steps ahead of the step, and behind it; one step with the label, not two.
	s = api.System{States: 6, Labels: 3, Start: 4, Edges: edges(4, 0, 0, 0, 2, 3, 3, 0, 5, 5, 0, 1, 5, 2, 2)}
	alike(t, "ahead and behind", saturatedOf(t, s), s, edges(0, 0, 0, 0, 2, 1, 0, 2, 3, 0, 2, 5, 1, 0, 1, 2, 0, 2, 3, 0, 1, 3, 0, 3, 3, 0, 5, 3, 2, 2, 4, 0, 0, 4, 0, 4, 4, 2, 1, 4, 2, 3, 4, 2, 5, 5, 0, 1, 5, 0, 5, 5, 2, 2))
	// A step of a cycle is one of all its states, and leads to all states of a cycle.
	s = api.System{States: 4, Labels: 2, Edges: edges(0, 0, 2, 2, 0, 0, 2, 1, 1, 1, 0, 3, 3, 0, 1)}
	alike(t, "cycles", saturatedOf(t, s), s, edges(0, 0, 0, 0, 0, 2, 0, 1, 1, 0, 1, 3, 1, 0, 1, 1, 0, 3, 2, 0, 0, 2, 0, 2, 2, 1, 1, 2, 1, 3, 3, 0, 1, 3, 0, 3))
}

func TestP1302AsTheWordsHaveIt(t *testing.T) {
	for i, s := range append(several(), great()...) {
		what := fmt.Sprint("the system ", i)
		want := weaklyOf(s).edges()
		got, err := weak.Saturate(s)
		if len(want) > api.MaxEdges {
			ownFault(t, what, err, api.ErrEdges)
			alike(t, what, got, api.System{}, nil)
			continue
		}
		if err != nil {
			t.Fatal(what, err)
		}
		alike(t, what, got, s, want)
		// What is saturated stays as it is.
		alike(t, what+", twice", saturatedOf(t, got), s, want)
		equalRows(t, what+": Silent", silentOf(t, got), weaklyOf(s).silent)
		if t.Failed() {
			return
		}
	}
}

// rings has a silent ring of n states, and so many further states without a step.
func rings(n, further, labels int) api.System {
	s := api.System{States: n + further, Labels: labels, Start: n + further - 1}
	for i := range n {
		s.Edges = append(s.Edges, api.Edge{From: i, To: (i + 1) % n})
	}
	return s
}

func TestP1302AtTheLimit(t *testing.T) {
	s := rings(100, 0, 1)
	full := saturatedOf(t, s)
	if len(full.Edges) != api.MaxEdges || system.Check(full) != nil {
		t.Errorf("%d edges", len(full.Edges))
	}
	refused := func(what string, s api.System) {
		t.Helper()
		full, err := weak.Saturate(s)
		ownFault(t, what, err, api.ErrEdges)
		alike(t, what, full, api.System{}, nil)
	}
	refused("one state too many", rings(100, 1, 1))
	refused("one step too many", api.System{States: 100, Labels: 2, Edges: append(edges(0, 1, 0), s.Edges...)})
	// Steps that are not silent count, too: of 99 states each with two labels to the one beside them, which has its silent one.
	s = rings(99, 1, 3)
	s.Edges = append(s.Edges, edges(5, 1, 99, 98, 2, 99)...)
	if got := saturatedOf(t, s); len(got.Edges) != 99*99+1+2*99 {
		t.Errorf("%d edges", len(got.Edges))
	}
	s.Edges = append(s.Edges, edges(17, 1, 99, 99, 0, 99)...)
	if got := saturatedOf(t, s); len(got.Edges) != api.MaxEdges {
		t.Errorf("with edges that are there already: %d edges", len(got.Edges))
	}
	s.Edges = append(s.Edges, edges(99, 1, 99)...)
	refused("one loop too many", s)
	refused("all that can be", complete(300, api.MaxLabels))
}

// complete has a silent ring and, with each other label, a step: so there are all weak steps that can be.
func complete(n, labels int) api.System {
	s := rings(n, 0, labels)
	for label := 1; label < labels; label++ {
		s.Edges = append(s.Edges, api.Edge{From: label % n, Label: label, To: (7 * label) % n})
	}
	return s
}

func TestP1303Given(t *testing.T) {
	equal(t, "the example", classesOf(t, given()), []int{0, 0, 1, 0})
	equal(t, "no state", classesOf(t, api.System{Labels: 1}), nil)
	equal(t, "no step", classesOf(t, api.System{States: 3, Labels: 2, Start: 2}), []int{0, 0, 0})
	// Where all is silent there is nothing to tell apart: a loop is as good as an end.
	equal(t, "all silent", classesOf(t, api.System{States: 4, Labels: 1, Edges: edges(0, 0, 1, 1, 0, 1, 3, 0, 2)}), []int{0, 0, 0, 0})
	equal(t, "a loop", classesOf(t, api.System{States: 2, Labels: 2, Edges: edges(0, 1, 0)}), []int{0, 1})
	equal(t, "labels", classesOf(t, api.System{States: 4, Labels: 3, Edges: edges(0, 1, 3, 1, 2, 3, 2, 1, 3)}), []int{0, 1, 0, 2})
	// A silent step that gives something up is seen, one that gives nothing up is not.
	equal(t, "given up", classesOf(t, api.System{States: 3, Labels: 3, Edges: edges(0, 1, 2, 0, 0, 1, 1, 2, 2)}), []int{0, 1, 2})
	equal(t, "nothing given up", classesOf(t, api.System{States: 3, Labels: 3, Edges: edges(0, 1, 2, 0, 0, 1, 1, 1, 2, 1, 2, 2)}), []int{0, 0, 1})
	// States that can't be reached have classes, too.
	equal(t, "not reachable", classesOf(t, api.System{States: 4, Labels: 2, Start: 3, Edges: edges(0, 0, 1, 1, 1, 2)}), []int{0, 0, 1, 1})
}

func TestP1303NotBranching(t *testing.T) {
	// a.(tau.b + c) and a.(tau.b + c) + a.b.
	s := api.System{States: 5, Labels: 4, Edges: edges(0, 1, 2, 1, 1, 2, 1, 1, 3, 2, 0, 3, 2, 3, 4, 3, 2, 4)}
	equal(t, "behind a step", classesOf(t, s), []int{0, 0, 1, 2, 3})
	// tau.b + c and tau.b + b + c.
	s = api.System{States: 4, Labels: 3, Edges: edges(0, 0, 2, 0, 2, 3, 1, 0, 2, 1, 2, 3, 1, 1, 3, 2, 1, 3)}
	equal(t, "ahead of a step", classesOf(t, s), []int{0, 0, 1, 2})
	// tau.b + c and b + c are not even weakly bisimilar.
	s = api.System{States: 4, Labels: 3, Edges: edges(0, 0, 2, 0, 2, 3, 1, 2, 3, 1, 1, 3, 2, 1, 3)}
	equal(t, "given up", classesOf(t, s), []int{0, 1, 2, 3})
}

func TestP1303AsTheWordsHaveIt(t *testing.T) {
	for _, s := range several() {
		equal(t, fmt.Sprint(s), classesOf(t, s), bisimilar(s))
		if t.Failed() {
			return
		}
	}
}

func TestP1303TooManyWeakSteps(t *testing.T) {
	for _, s := range several() {
		if s.States > 190 {
			continue
		}
		// The ring's states are as good as one that has no step.
		one := s
		one.States++
		want := bisimilar(one)
		want = append(want, slices.Repeat([]int{want[s.States]}, 100)...)
		more := beside(s)
		if _, err := weak.Saturate(more); !errors.Is(err, api.ErrEdges) {
			t.Fatalf("%v: %v", more, err)
		}
		equal(t, fmt.Sprint("beside a ring: ", s), classesOf(t, more), want)
		if t.Failed() {
			return
		}
	}
}

func TestP1303Blown(t *testing.T) {
	x := &numbers{at: 77}
	refused := 0
	for n := range 60 {
		s := x.system(2+x.below(9), 4, 24)
		states := 40 + n*260/59
		big, old := x.blown(s, states)
		big, to := x.mixed(big)
		own := bisimilar(s)
		want := make([]int, states)
		for state, o := range old {
			want[to[state]] = own[o]
		}
		if got := classesOf(t, big); !slices.Equal(got, oneForm(want)) {
			t.Fatalf("%v, to %d states: %v, not %v", s, states, got, oneForm(want))
		}
		if _, err := weak.Saturate(big); err != nil {
			refused++
		}
	}
	if refused < 15 || refused > 45 {
		t.Errorf("%d of 60 have too many weak steps", refused)
	}
}

func TestP1303AtTheLimits(t *testing.T) {
	x := &numbers{at: 3}
	systems, wanted := byShape()
	for i, s := range systems {
		equal(t, fmt.Sprint("the shape ", i), classesOf(t, s), wanted[i])
		mixed, to := x.mixed(s)
		want := make([]int, s.States)
		for state, class := range wanted[i] {
			want[to[state]] = class
		}
		equal(t, fmt.Sprint("the shape ", i, ", mixed"), classesOf(t, mixed), oneForm(want))
	}
	equal(t, "all that can be", classesOf(t, complete(300, api.MaxLabels)), make([]int, 300))
	for i, s := range byChance() {
		got := classesOf(t, s)
		if want := byRounds(s); !slices.Equal(got, want) {
			t.Errorf("the great system %d: %d classes, not %d", i, system.Together(got), system.Together(want))
		}
	}
}

func TestP1303IsBisimulation(t *testing.T) {
	for i, s := range great() {
		// Of the others there are too many pairs to ask for.
		if classes := classesOf(t, s); len(s.Edges) < 1000 && system.Together(classes) > 50 && !isBisimulation(s, classes) {
			t.Errorf("the great system %d: no weak bisimulation", i)
		}
	}
}

func TestP1303Same(t *testing.T) {
	x := &numbers{at: 6}
	for range 100 {
		s := x.system(1+x.below(8), 3, 16)
		if s.States%2 == 0 {
			s = beside(s)
		}
		classes := classesOf(t, s)
		for p := -2; p < s.States+2; p++ {
			q := x.below(s.States+4) - 2
			is, err := weak.Same(s, p, q)
			if min(p, q) < 0 || max(p, q) >= s.States {
				ownFault(t, fmt.Sprint(s, p, q), err, api.ErrIndex)
				if is {
					t.Errorf("%v: %d, %d: true beside an error", s, p, q)
				}
				continue
			}
			if err != nil || is != (classes[p] == classes[q]) {
				t.Errorf("%v: %d, %d: %v, %v", s, p, q, is, err)
			}
		}
	}
	if is, err := weak.Same(given(), 0, 3); !is || err != nil {
		t.Errorf("the example: %v, %v", is, err)
	}
	for _, n := range []int{least, -1, 4, 1000, greatest} {
		for _, two := range [][2]int{{n, 0}, {0, n}, {n, n}, {n, 3}, {3, n}, {least, n}, {n, greatest}} {
			is, err := weak.Same(given(), two[0], two[1])
			ownFault(t, fmt.Sprint(two), err, api.ErrIndex)
			if is {
				t.Errorf("%v: true beside an error", two)
			}
		}
	}
	_, err := weak.Same(api.System{Labels: 1}, 0, 0)
	ownFault(t, "no state", err, api.ErrIndex)
	_, err = weak.Same(chain(300, 0), 0, 300)
	ownFault(t, "too many weak steps", err, api.ErrIndex)
}

func TestP1304Saturated(t *testing.T) {
	for i, s := range append(several(), great()...) {
		full, err := weak.Saturate(s)
		if err != nil {
			continue
		}
		want, err := strong.Classes(full)
		if err != nil {
			t.Fatal(i, err)
		}
		equal(t, fmt.Sprint("the system ", i), classesOf(t, s), want)
		equal(t, fmt.Sprint("the system ", i, ", saturated"), classesOf(t, full), want)
	}
}

func TestP1304Branching(t *testing.T) {
	for i, s := range append(several(), great()...) {
		fine, err := branching.Classes(s)
		if err != nil || !isFiner(fine, classesOf(t, s)) {
			t.Fatalf("the system %d: %v, or branching bisimilar states that are not together", i, err)
		}
	}
	// Without a silent step all are the same.
	x := &numbers{at: 2}
	for range 300 {
		s := x.system(1+x.below(20), 3, 60)
		s.Edges = slices.DeleteFunc(s.Edges, func(e api.Edge) bool { return e.Label == api.Tau })
		fine, _ := strong.Classes(s)
		equal(t, fmt.Sprint(s), classesOf(t, s), fine)
	}
}

// together tells whether two terms, over the definitions P, Q and R, are weakly bisimilar.
func together(t *testing.T, a, b string) bool {
	t.Helper()
	program, err := source.Parse("P = a.P + tau.b.Q\nQ = c.0 + tau.R\nR = (b.P | 'b.0)\\{b}\n")
	if err != nil {
		t.Fatal(err)
	}
	id, err := program.Term("first.(" + a + ") + second.(" + b + ")")
	if err != nil {
		t.Fatal(a, b, err)
	}
	space, err := generate.From(program, id)
	if err != nil {
		t.Fatal(a, b, err)
	}
	s := space.System()
	var ends []int
	for _, e := range s.Edges {
		if e.From == s.Start {
			ends = append(ends, e.To)
		}
	}
	is, err := weak.Same(s, ends[0], ends[1])
	if err != nil {
		t.Fatal(a, b, err)
	}
	return is
}

func TestLawsOfTheSilentAction(t *testing.T) {
	terms := []string{"0", "a.0", "tau.a.0", "(b.0 + tau.c.0)", "P", "Q", "R", "(P | a.0)", "Q[a/c]"}
	for _, p := range terms {
		if !together(t, "a.tau."+p, "a."+p) || !together(t, "tau."+p, p) || !together(t, p+" + tau."+p, "tau."+p) {
			t.Errorf("a silent step ahead of %s", p)
		}
		for _, q := range terms {
			if !together(t, "d.("+p+" + tau."+q+")", "d.("+p+" + tau."+q+") + d."+q) {
				t.Errorf("a silent step behind another one: %s, %s", p, q)
			}
			if !together(t, "d.(tau.("+p+" + "+q+") + "+p+")", "d.("+p+" + "+q+")") {
				t.Errorf("a silent step that gives nothing up: %s, %s", p, q)
			}
			if !together(t, p+" + "+q, q+" + "+p) || !together(t, "tau."+p+" | "+q, p+" | "+q) {
				t.Errorf("a choice, a parallel composition: %s, %s", p, q)
			}
		}
	}
	if together(t, "tau.a.0 + b.0", "a.0 + b.0") || together(t, "a.(b.0 + tau.c.0)", "a.b.0 + a.c.0") || together(t, "a.0", "0") {
		t.Error("a law that is none")
	}
}

func TestTheOrderOfEdges(t *testing.T) {
	x := &numbers{at: 4}
	for n := range 200 {
		s := x.system(2+x.below(10), 3, 30)
		if n%5 == 0 {
			s = beside(s)
		}
		turned := s
		turned.Edges = slices.Clone(s.Edges)
		slices.Reverse(turned.Edges)
		turned.Edges = append(turned.Edges, s.Edges...)
		// The start does not matter, either.
		turned.Start = s.States - 1 - s.Start
		for name, call := range calls() {
			want, _ := call(s)
			if got, _ := call(turned); got != want {
				t.Errorf("%s of %v: %s, turned %s", name, s, want, got)
			}
		}
	}
}

// spoil writes over a list, and behind it.
func spoil[T any](list []T, with T) {
	for i := range list {
		list[i] = with
	}
	_ = append(list, with, with, with)
}

func TestAnswersAreNew(t *testing.T) {
	small, _ := (&numbers{at: 8}).blown(ring(6), 30)
	for _, s := range []api.System{small, beside(small)} {
		room := append(slices.Clone(s.Edges), api.Edge{From: 77})
		slices.Reverse(room[:len(room)-1])
		before := slices.Clone(room)
		s.Edges = room[:len(room)-1]
		told := func() string {
			all := ""
			for _, name := range []string{"Silent", "Saturate", "Classes", "Same, others"} {
				answer, _ := calls()[name](s)
				all += answer
			}
			return all
		}
		want := told()
		spoil(classesOf(t, s), -7)
		if full, err := weak.Saturate(s); err == nil {
			spoil(full.Edges, api.Edge{From: -7})
		}
		rows := silentOf(t, s)
		for i := range rows {
			// Of states of one cycle each has a list of its own, and nothing stands behind it.
			rest := fmt.Sprint(rows[i+1:])
			spoil(rows[i], -7)
			if got := fmt.Sprint(rows[i+1:]); got != rest {
				t.Fatalf("behind %d: %s, not %s", i, got, rest)
			}
		}
		if got := told(); got != want {
			t.Errorf("twice: %s, not %s", got, want)
		}
		equal(t, "the edges that were handed in", room, before)
	}
}
