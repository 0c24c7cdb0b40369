package simul_test

import (
	"errors"
	"fmt"
	"slices"
	"sync"
	"testing"

	"semblance/api"
	"semblance/generate"
	"semblance/simul"
	"semblance/source"
	"semblance/strong"
)

// equal fails, unless two lists are the same; nil and empty are one.
func equal[T comparable](t *testing.T, what string, got, want []T) {
	t.Helper()
	if !slices.Equal(got, want) {
		t.Errorf("%s: %v, not %v", what, got, want)
	}
}

// equalRows fails, unless two lists of lists are the same.
func equalRows(t *testing.T, what string, got, want [][]int) {
	t.Helper()
	if !slices.EqualFunc(got, want, slices.Equal[[]int]) {
		t.Errorf("%s: %v, not %v", what, got, want)
	}
}

// aboveOf tells Above of a system that has it.
func aboveOf(t *testing.T, s api.System) [][]int {
	t.Helper()
	rows, err := simul.Above(s)
	if err != nil {
		t.Fatal(s, err)
	}
	return rows
}

// classesOf tells Classes of a system that has them.
func classesOf(t *testing.T, s api.System) []int {
	t.Helper()
	classes, err := simul.Classes(s)
	if err != nil {
		t.Fatal(s, err)
	}
	return classes
}

// calls are the calls of the package, of which what they answer beside an error is told as a text.
func calls() map[string]func(api.System) (string, error) {
	below := func(p, q int) func(api.System) (string, error) {
		return func(s api.System) (string, error) {
			is, err := simul.Below(s, p, q)
			return fmt.Sprint(is), err
		}
	}
	return map[string]func(api.System) (string, error){
		"Above": func(s api.System) (string, error) {
			rows, err := simul.Above(s)
			return fmt.Sprint(rows), err
		},
		"Classes": func(s api.System) (string, error) {
			classes, err := simul.Classes(s)
			return fmt.Sprint(classes), err
		},
		"Below":           below(0, 0),
		"Below, others":   below(1, 0),
		"Below, below":    below(-1, 0),
		"Below, far":      below(0, greatest),
		"Below, far down": below(least, least),
	}
}

// isNothing tells whether a text is one of a zero value.
func isNothing(told string) bool { return told == "[]" || told == "false" }

// handedOn fails, unless err is a fault of this layer around one of system, neither with a place, around ErrSystem.
func handedOn(t *testing.T, what string, err error) {
	t.Helper()
	outer, ok := err.(*api.Fault)
	if !ok || outer.Layer != "simul" || outer.Line != 0 || outer.Col != 0 {
		t.Errorf("%s: %#v, no fault of simul", what, err)
		return
	}
	inner, ok := outer.Err.(*api.Fault)
	if !ok || *inner != (api.Fault{Layer: "system", Err: api.ErrSystem}) {
		t.Errorf("%s: it wraps %#v, not system's ErrSystem", what, outer.Err)
	}
	if !errors.Is(err, api.ErrSystem) || api.Code(err) != 14 {
		t.Errorf("%s: %v is told as %d", what, err, api.Code(err))
	}
}

// ownFault fails, unless err is a fault of this layer alone, without a place, around one of api's errors.
func ownFault(t *testing.T, what string, err, want error) {
	t.Helper()
	if f, is := err.(*api.Fault); !is || *f != (api.Fault{Layer: "simul", Err: want}) || api.Code(err) != api.Code(want) {
		t.Errorf("%s: %#v, not %v", what, err, want)
	}
}

func TestSystemsThatAreNone(t *testing.T) {
	for name, call := range calls() {
		for what, s := range noSystems() {
			told, err := call(s)
			handedOn(t, name+": "+what, err)
			if !isNothing(told) {
				t.Errorf("%s: %s: %s beside an error", name, what, told)
			}
		}
	}
}

func TestTooManyStates(t *testing.T) {
	for name, call := range calls() {
		for _, states := range []int{301, 302, 320, 999, 1000} {
			// Whether there are no such states is not asked any more.
			for _, s := range []api.System{{States: states, Labels: 1}, chain(states)} {
				told, err := call(s)
				ownFault(t, fmt.Sprint(name, " of ", states, " states"), err, api.ErrLong)
				if !isNothing(told) {
					t.Errorf("%s of %d states: %s beside an error", name, states, told)
				}
			}
		}
	}
	s := api.System{States: api.MaxPairs, Labels: api.MaxLabels, Start: 299}
	equalRows(t, "Above of 300 states", aboveOf(t, s), slices.Repeat([][]int{upTo(300)}, 300))
	equal(t, "Classes of 300 states", classesOf(t, s), make([]int, 300))
	if is, err := simul.Below(s, 0, 299); !is || err != nil {
		t.Errorf("Below of 300 states: %v, %v", is, err)
	}
}

func TestFaultsAreNew(t *testing.T) {
	for name, call := range calls() {
		for _, s := range []api.System{{}, {States: 301, Labels: 1}, {Labels: 1}} {
			_, first := call(s)
			_, second := call(s)
			if first == nil {
				continue
			}
			var f *api.Fault
			if first == second || !errors.As(first, &f) {
				t.Fatalf("%s: %v, then %v", name, first, second)
			}
			f.Err = api.ErrDeep
			if _, err := call(s); errors.Is(err, api.ErrDeep) {
				t.Errorf("%s: a fault that was changed", name)
			}
		}
	}
}

func TestP1701Given(t *testing.T) {
	equalRows(t, "the example", aboveOf(t, given()), [][]int{{0, 2}, {1, 4}, {0, 2}, {0, 1, 2, 3, 4}, {1, 4}})
	equalRows(t, "no state", aboveOf(t, api.System{Labels: 1}), nil)
	equalRows(t, "no step", aboveOf(t, api.System{States: 2, Labels: 1, Start: 1}), [][]int{{0, 1}, {0, 1}})
	// Who does nothing is simulated by all, who does something not by who doesn't.
	equalRows(t, "a step", aboveOf(t, api.System{States: 2, Labels: 1, Edges: edges(0, 0, 1)}), [][]int{{0}, {0, 1}})
	// The silent label is one as all others.
	equalRows(t, "silent", aboveOf(t, api.System{States: 3, Labels: 2, Edges: edges(0, 0, 1, 1, 1, 2)}), [][]int{{0}, {1}, {0, 1, 2}})
	equalRows(t, "labels", aboveOf(t, api.System{States: 4, Labels: 3, Edges: edges(0, 1, 3, 1, 2, 3, 2, 1, 3, 2, 2, 3)}), [][]int{{0, 2}, {1, 2}, {2}, {0, 1, 2, 3}})
	// a.b + a.c and a.(b + c): the second one simulates the first one alone.
	equalRows(t, "the choice", aboveOf(t, api.System{States: 6, Labels: 4, Edges: edges(0, 1, 2, 0, 1, 3, 1, 1, 4, 2, 2, 5, 3, 3, 5, 4, 2, 5, 4, 3, 5)}), [][]int{{0, 1}, {1}, {2, 4}, {3, 4}, {4}, {0, 1, 2, 3, 4, 5}})
	// Each of a step's ends may be met by another one.
	equalRows(t, "by two", aboveOf(t, api.System{States: 4, Labels: 3, Edges: edges(0, 0, 1, 0, 0, 2, 1, 1, 3, 2, 2, 3)}), [][]int{{0}, {1}, {2}, {0, 1, 2, 3}})
	equalRows(t, "loops", aboveOf(t, api.System{States: 3, Labels: 2, Edges: edges(0, 0, 0, 1, 0, 2, 2, 0, 1, 2, 1, 2)}), [][]int{{0, 1, 2}, {1}, {2}})
}

func TestP1701AsTheWordsHaveIt(t *testing.T) {
	for _, s := range several() {
		want := simulated(s)
		equalRows(t, fmt.Sprint(s), aboveOf(t, s), rowsOf(want))
		if t.Failed() {
			return
		}
	}
}

func TestP1701AtTheLimits(t *testing.T) {
	for i, s := range great() {
		got := aboveOf(t, s)
		equalRows(t, fmt.Sprint("the great system ", i), got, rowsOf(simulated(s)))
		if t.Failed() {
			return
		}
	}
}

func TestP1701PairByPair(t *testing.T) {
	// Pairs of the two rings go one after the other, each because of the last one; each step has many that meet it else.
	const one, two = 151, 149
	s := rings(one, two, 0)
	s.Labels = api.MaxLabels
	var want [][]int
	for state := range one + two {
		want = append(want, []int{state})
	}
	equalRows(t, "alone", aboveOf(t, s), want)
	for label := 2; len(s.Edges)+one+two <= api.MaxEdges; label++ {
		for i := range one {
			s.Edges = append(s.Edges, edge(i, label, (i*label)%one))
		}
		for i := range two {
			s.Edges = append(s.Edges, edge(one+i, label, one+(i*label)%two))
		}
	}
	equalRows(t, "with many steps", aboveOf(t, s), want)
	mixed, to := (&numbers{at: 5}).mixed(s)
	for state := range want {
		want[to[state]] = []int{to[state]}
	}
	equalRows(t, "mixed", aboveOf(t, mixed), want)
}

func TestP1701Blown(t *testing.T) {
	x := &numbers{at: 77}
	for n := range 60 {
		s := x.system(2+x.below(9), 4, 24)
		states := 40 + n*260/59
		big, old := x.blown(s, states)
		if len(big.Edges) > api.MaxEdges {
			t.Fatal(len(big.Edges))
		}
		big, to := x.mixed(big)
		own := simulated(s)
		want, classes := make([][]bool, states), make([]int, states)
		for p, o := range old {
			classes[to[p]] = mutual(own)[o]
			want[to[p]] = make([]bool, states)
			for q, other := range old {
				want[to[p]][to[q]] = own[o][other]
			}
		}
		equalRows(t, fmt.Sprint(s, ", to ", states), aboveOf(t, big), rowsOf(want))
		equal(t, fmt.Sprint(s, ", to ", states), classesOf(t, big), oneForm(classes))
		if t.Failed() {
			return
		}
	}
}

func TestP1702Below(t *testing.T) {
	x := &numbers{at: 6}
	for range 200 {
		s := x.system(1+x.below(8), 3, 16)
		related := simulated(s)
		for p := -2; p < s.States+2; p++ {
			q := x.below(s.States+4) - 2
			is, err := simul.Below(s, p, q)
			if min(p, q) < 0 || max(p, q) >= s.States {
				ownFault(t, fmt.Sprint(s, p, q), err, api.ErrIndex)
				if is {
					t.Errorf("%v: %d, %d: true beside an error", s, p, q)
				}
				continue
			}
			if err != nil || is != related[p][q] {
				t.Errorf("%v: %d, %d: %v, %v", s, p, q, is, err)
			}
		}
	}
}

func TestP1702BelowGiven(t *testing.T) {
	for _, c := range []struct {
		p, q int
		want bool
	}{{2, 0, true}, {0, 2, true}, {0, 3, false}, {3, 0, true}, {3, 3, true}, {1, 4, true}, {0, 1, false}, {1, 0, false}} {
		if is, err := simul.Below(given(), c.p, c.q); is != c.want || err != nil {
			t.Errorf("the example: %d, %d: %v, %v", c.p, c.q, is, err)
		}
	}
	for _, n := range []int{least, -1, 5, 1000, greatest} {
		for _, two := range [][2]int{{n, 0}, {0, n}, {n, n}, {n, 4}, {4, n}, {least, n}, {n, greatest}} {
			is, err := simul.Below(given(), two[0], two[1])
			ownFault(t, fmt.Sprint(two), err, api.ErrIndex)
			if is {
				t.Errorf("%v: true beside an error", two)
			}
		}
	}
	_, err := simul.Below(api.System{Labels: 1}, 0, 0)
	ownFault(t, "no state", err, api.ErrIndex)
	_, err = simul.Below(chain(300), 0, 300)
	ownFault(t, "300 states", err, api.ErrIndex)
}

func TestP1702Classes(t *testing.T) {
	equal(t, "the example", classesOf(t, given()), []int{0, 1, 0, 2, 1})
	equal(t, "no state", classesOf(t, api.System{Labels: 1}), nil)
	equal(t, "no step", classesOf(t, api.System{States: 3, Labels: 2, Start: 2}), []int{0, 0, 0})
	// States that one simulates, but that don't simulate it, are of another class.
	equal(t, "one way", classesOf(t, chain(4)), []int{0, 1, 2, 3})
	// a.(b + c) + a.b and a.(b + c): not bisimilar, of one class all the same.
	s := api.System{States: 5, Labels: 4, Edges: edges(0, 1, 2, 0, 1, 3, 1, 1, 2, 2, 2, 4, 2, 3, 4, 3, 2, 4)}
	equal(t, "not bisimilar", classesOf(t, s), []int{0, 0, 1, 2, 3})
	// States that can't be reached have classes, too.
	equal(t, "not reachable", classesOf(t, api.System{States: 4, Labels: 2, Start: 3, Edges: edges(0, 0, 1, 1, 1, 2)}), []int{0, 1, 2, 2})
	for _, s := range append(several(), great()[:7]...) {
		equal(t, fmt.Sprint(s), classesOf(t, s), mutual(simulated(s)))
		if t.Failed() {
			return
		}
	}
}

func TestP1703Order(t *testing.T) {
	for _, s := range several() {
		related := relationOf(aboveOf(t, s))
		if !isOrder(related) || !isSimulation(s, related) {
			t.Fatalf("%v: no order, or no simulation: %v", s, related)
		}
	}
	for i, s := range great() {
		related := relationOf(aboveOf(t, s))
		if !isSimulation(s, related) {
			t.Fatalf("the great system %d: no simulation", i)
		}
	}
}

func TestP1703Strong(t *testing.T) {
	for i, s := range append(several(), great()...) {
		fine, err := strong.Classes(s)
		if err != nil {
			t.Fatal(i, err)
		}
		coarse := classesOf(t, s)
		for p := range fine {
			// Who is together with the least state of its class is so with all.
			if q := slices.Index(fine, fine[p]); coarse[p] != coarse[q] {
				t.Fatalf("the system %d: %d and %d are bisimilar, and don't simulate one another", i, p, q)
			}
		}
	}
	// Where each state has at most one step with a label, there is no more than that to it.
	x := &numbers{at: 2}
	for range 300 {
		s := api.System{States: 1 + x.below(20), Labels: 2}
		for from := range s.States {
			for label := range s.Labels {
				if x.below(4) > 0 {
					s.Edges = append(s.Edges, edge(from, label, x.below(s.States)))
				}
			}
		}
		fine, _ := strong.Classes(s)
		equal(t, fmt.Sprint(s), classesOf(t, s), fine)
	}
}

// simulates tells whether the first term simulates the second one, over the definitions P and Q.
func simulates(t *testing.T, a, b string) bool {
	t.Helper()
	program, err := source.Parse("P = a.P + b.Q\nQ = c.P + tau.Q\n")
	if err != nil {
		t.Fatal(err)
	}
	id, err := program.Term("first.(" + a + ") + second.(" + b + ")")
	if err != nil {
		t.Fatal(a, b, err)
	}
	space, err := generate.From(program, id)
	if err != nil {
		t.Fatal(a, b, err)
	}
	s := space.System()
	var ends []int
	for _, e := range s.Edges {
		if e.From == s.Start {
			ends = append(ends, e.To)
		}
	}
	is, err := simul.Below(s, ends[1], ends[0])
	if err != nil {
		t.Fatal(a, b, err)
	}
	return is
}

func TestTerms(t *testing.T) {
	terms := []string{"0", "a.0", "tau.a.0", "(b.0 + tau.c.0)", "P", "Q", "(P | a.0)", "(a.b.0 | 'b.0)\\{b}", "Q[a/c]"}
	for _, p := range terms {
		if !simulates(t, p, "0") || !simulates(t, p, p) || !simulates(t, p+" | 0", p) || simulates(t, p, "d.0") {
			t.Error(p)
		}
		for _, q := range terms {
			if !simulates(t, p+" + "+q, q) || !simulates(t, p+" | "+q, q) {
				t.Errorf("a choice, a parallel composition: %s, %s", p, q)
			}
			if !simulates(t, "d.("+p+" + "+q+")", "d."+p+" + d."+q) {
				t.Errorf("a choice that is put off: %s, %s", p, q)
			}
		}
	}
	if simulates(t, "d.a.0 + d.b.0", "d.(a.0 + b.0)") || simulates(t, "a.0", "tau.a.0") || simulates(t, "tau.a.0", "a.0") {
		t.Error("a law that is none")
	}
}

func TestTheOrderOfEdges(t *testing.T) {
	x := &numbers{at: 4}
	for range 200 {
		s := x.system(2+x.below(10), 3, 30)
		turned := s
		turned.Edges = slices.Clone(s.Edges)
		slices.Reverse(turned.Edges)
		turned.Edges = append(turned.Edges, s.Edges...)
		// The start does not matter, either.
		turned.Start = s.States - 1 - s.Start
		for name, call := range calls() {
			want, _ := call(s)
			if got, _ := call(turned); got != want {
				t.Errorf("%s of %v: %s, turned %s", name, s, want, got)
			}
		}
	}
}

// spoil writes over a list, and behind it.
func spoil[T any](list []T, with T) {
	for i := range list {
		list[i] = with
	}
	_ = append(list, with, with, with)
}

func TestAnswersAreNew(t *testing.T) {
	x := &numbers{at: 8}
	s, _ := x.blown(x.system(6, 3, 20), 30)
	room := append(slices.Clone(s.Edges), edge(77, 0, 0))
	slices.Reverse(room[:len(room)-1])
	before := slices.Clone(room)
	s.Edges = room[:len(room)-1]
	told := func() string {
		all := ""
		for _, name := range []string{"Above", "Classes", "Below, others"} {
			answer, _ := calls()[name](s)
			all += answer
		}
		return all
	}
	want := told()
	spoil(classesOf(t, s), -7)
	rows := aboveOf(t, s)
	for i := range rows {
		// Of states of one class each has a list of its own, and nothing stands behind it.
		rest := fmt.Sprint(rows[i+1:])
		spoil(rows[i], -7)
		if got := fmt.Sprint(rows[i+1:]); got != rest {
			t.Fatalf("behind %d: %s, not %s", i, got, rest)
		}
	}
	if got := told(); got != want {
		t.Errorf("twice: %s, not %s", got, want)
	}
	equal(t, "the edges that were handed in", room, before)
}

func TestSideBySide(t *testing.T) {
	s := rings(9, 10, 20)
	want := rowsOf(simulated(s))
	var all sync.WaitGroup
	for range 8 {
		all.Go(func() {
			rows, err := simul.Above(s)
			if err != nil || !slices.EqualFunc(rows, want, slices.Equal[[]int]) {
				t.Errorf("side by side: %v, %v", rows, err)
			}
		})
	}
	all.Wait()
}
