package tauscc_test

import (
	"errors"
	"fmt"
	"slices"
	"testing"

	"semblance/api"
	"semblance/system"
	"semblance/tauscc"
)

// equal fails, unless two lists are the same; nil and empty are one.
func equal(t *testing.T, what string, got, want []int) {
	t.Helper()
	if !slices.Equal(got, want) {
		t.Errorf("%s: %v, not %v", what, got, want)
	}
}

// alike fails, unless two systems are the same, edge by edge.
func alike(t *testing.T, what string, got, want api.System) {
	t.Helper()
	if got.States != want.States || got.Labels != want.Labels || got.Start != want.Start || !slices.Equal(got.Edges, want.Edges) {
		t.Errorf("%s: %v, not %v", what, got, want)
	}
}

// cyclesOf tells Cycles of a system that is one.
func cyclesOf(t *testing.T, s api.System) []int {
	t.Helper()
	classes, err := tauscc.Cycles(s)
	if err != nil {
		t.Fatal(s, err)
	}
	return classes
}

// collapseOf tells Collapse of a system that is one.
func collapseOf(t *testing.T, s api.System) (api.System, []int) {
	t.Helper()
	c, classes, err := tauscc.Collapse(s)
	if err != nil {
		t.Fatal(s, err)
	}
	return c, classes
}

// orderOf tells Order of a system that is one.
func orderOf(t *testing.T, s api.System) []int {
	t.Helper()
	order, err := tauscc.Order(s)
	if err != nil {
		t.Fatal(s, err)
	}
	return order
}

// calls are the calls of the package, of which what they answer beside an error is told as a text.
func calls() map[string]func(api.System) (string, error) {
	return map[string]func(api.System) (string, error){
		"Cycles": func(s api.System) (string, error) {
			classes, err := tauscc.Cycles(s)
			return fmt.Sprint(classes), err
		},
		"Collapse": func(s api.System) (string, error) {
			c, classes, err := tauscc.Collapse(s)
			return fmt.Sprint(c, classes), err
		},
		"Order": func(s api.System) (string, error) {
			order, err := tauscc.Order(s)
			return fmt.Sprint(order), err
		},
	}
}

// handedOn fails, unless err is a fault of this layer around one of system, neither with a place, around ErrSystem.
func handedOn(t *testing.T, what string, err error) {
	t.Helper()
	outer, ok := err.(*api.Fault)
	if !ok || outer.Layer != "tauscc" || outer.Line != 0 || outer.Col != 0 {
		t.Errorf("%s: %#v, no fault of tauscc", what, err)
		return
	}
	inner, ok := outer.Err.(*api.Fault)
	if !ok || *inner != (api.Fault{Layer: "system", Err: api.ErrSystem}) {
		t.Errorf("%s: it wraps %#v, not system's ErrSystem", what, outer.Err)
	}
	if !errors.Is(err, api.ErrSystem) || api.Code(err) != 14 {
		t.Errorf("%s: %v is told as %d", what, err, api.Code(err))
	}
}

func TestSystemsThatAreNone(t *testing.T) {
	zero := map[string]string{"Cycles": "[]", "Collapse": "{0 0 0 []} []", "Order": "[]"}
	for name, call := range calls() {
		for what, s := range noSystems() {
			told, err := call(s)
			handedOn(t, name+": "+what, err)
			if told != zero[name] {
				t.Errorf("%s: %s: %s beside an error", name, what, told)
			}
		}
	}
}

func TestFaultsAreNew(t *testing.T) {
	for name, call := range calls() {
		_, first := call(api.System{})
		_, second := call(api.System{})
		if first == second || errors.Unwrap(first) == errors.Unwrap(second) {
			t.Errorf("%s: the same fault twice", name)
		}
		var f *api.Fault
		if !errors.As(first, &f) {
			t.Fatalf("%s: %v is no fault", name, first)
		}
		f.Err = api.ErrDeep
		if _, err := call(api.System{}); errors.Is(err, api.ErrDeep) {
			t.Errorf("%s: a fault that was changed", name)
		}
	}
}

func TestAsTheWordsHaveIt(t *testing.T) {
	for _, s := range several() {
		what := fmt.Sprint(s)
		want := leadsOf(s).classes()
		equal(t, what+": Cycles", cyclesOf(t, s), want)
		c, classes := collapseOf(t, s)
		equal(t, what+": Collapse, the classes", classes, want)
		alike(t, what+": Collapse", c, collapsedBy(s, want))
		equal(t, what+": Order", orderOf(t, s), orderBy(s, want))
		if t.Failed() {
			return
		}
	}
}

func TestAtTheLimits(t *testing.T) {
	for i, s := range great() {
		what := fmt.Sprint("the great system ", i)
		classes := cyclesOf(t, s)
		r := leadsOf(s)
		for p, row := range r {
			for q := range row {
				if (classes[p] == classes[q]) != r.together(p, q) {
					t.Fatalf("%s: %d and %d have the classes %d and %d", what, p, q, classes[p], classes[q])
				}
			}
		}
		if !system.Classes(s, classes) {
			t.Fatalf("%s: not in the one form: %v", what, classes)
		}
		c, again := collapseOf(t, s)
		equal(t, what+": Collapse, the classes", again, classes)
		held(t, what, s, c, classes)
		ordered(t, what, s, classes)
	}
}

// held fails, unless c is the system of classes.
func held(t *testing.T, what string, s, c api.System, classes []int) {
	t.Helper()
	var wanted []api.Edge
	for _, e := range s.Edges {
		e.From, e.To = classes[e.From], classes[e.To]
		if e.Label != api.Tau || e.From != e.To {
			wanted = append(wanted, e)
		}
	}
	want, err := system.Normal(api.System{States: slices.Max(classes) + 1, Labels: s.Labels, Start: classes[s.Start], Edges: wanted})
	if err != nil {
		t.Fatal(what, err)
	}
	alike(t, what+": Collapse", c, want)
}

// ordered fails, unless Order of a great system is as P1103 has it: by where each class stands, it asks of each place whether a lesser class might have come there.
func ordered(t *testing.T, what string, s api.System, classes []int) {
	t.Helper()
	order := orderOf(t, s)
	if sorted := slices.Sorted(slices.Values(order)); !slices.Equal(sorted, upTo(s.States)) {
		t.Fatalf("%s: Order: not each state once: %v", what, order)
	}
	var row []int // the classes, as they stand
	for i, p := range order {
		switch {
		case i == 0 || classes[order[i-1]] != classes[p]:
			row = append(row, classes[p])
		case order[i-1] > p:
			t.Fatalf("%s: Order: %d stands ahead of %d, in one class", what, order[i-1], p)
		}
	}
	if len(row) != slices.Max(classes)+1 {
		t.Fatalf("%s: Order: %d classes, or pieces of them", what, len(row))
	}
	places := make([]int, len(row))
	for place, class := range row {
		places[class] = place
	}
	// From which place on a class may come: behind all that its silent steps lead to.
	may := make([]int, len(row))
	for _, e := range s.Edges {
		if from, to := classes[e.From], classes[e.To]; e.Label == api.Tau && from != to {
			may[from] = max(may[from], places[to]+1)
		}
	}
	for class, place := range places {
		if place < may[class] {
			t.Fatalf("%s: Order: the class %d stands ahead of what it leads to", what, class)
		}
		for lesser := range class {
			if may[lesser] <= place && place < places[lesser] {
				t.Fatalf("%s: Order: the class %d stands where %d may", what, class, lesser)
			}
		}
	}
}

func TestP1101Given(t *testing.T) {
	equal(t, "the example", cyclesOf(t, given()), []int{0, 0, 1, 2})
	equal(t, "no state", cyclesOf(t, api.System{Labels: 1}), nil)
	equal(t, "one state", cyclesOf(t, api.System{States: 1, Labels: 1}), []int{0})
	equal(t, "a loop", cyclesOf(t, api.System{States: 2, Labels: 1, Edges: edges(1, 0, 1)}), []int{0, 1})
	// A cycle of steps that are not all silent is none.
	equal(t, "a label", cyclesOf(t, api.System{States: 3, Labels: 2, Edges: edges(0, 0, 1, 1, 0, 2, 2, 1, 0)}), []int{0, 1, 2})
	equal(t, "labels", cyclesOf(t, api.System{States: 2, Labels: 2, Edges: edges(0, 1, 1, 1, 1, 0)}), []int{0, 1})
	// Two cycles that share a state are one, two that a step joins are not.
	equal(t, "shared", cyclesOf(t, api.System{States: 5, Labels: 1, Edges: edges(4, 0, 1, 1, 0, 4, 1, 0, 3, 3, 0, 1, 3, 0, 3)}), []int{0, 1, 2, 1, 1})
	equal(t, "joined", cyclesOf(t, api.System{States: 4, Labels: 1, Edges: edges(0, 0, 3, 3, 0, 0, 1, 0, 2, 2, 0, 1, 3, 0, 1)}), []int{0, 1, 1, 0})
	// Whether they can be reached does not matter.
	equal(t, "not reachable", cyclesOf(t, api.System{States: 4, Labels: 1, Start: 3, Edges: edges(0, 0, 2, 2, 0, 0)}), []int{0, 1, 0, 2})
}

func TestP1101LateReturns(t *testing.T) {
	// What a state leads to is known only behind those that were come to later: the way back begins at the last of them, past one that is left.
	s := api.System{States: 6, Labels: 1, Edges: edges(0, 0, 1, 1, 0, 2, 2, 0, 5, 2, 0, 3, 3, 0, 4, 4, 0, 1, 4, 0, 5, 1, 0, 5)}
	equal(t, "past one that is left", cyclesOf(t, s), []int{0, 1, 1, 1, 1, 2})
	s.Edges = append(s.Edges, api.Edge{From: 3, To: 0})
	equal(t, "back to the first one", cyclesOf(t, s), []int{0, 0, 0, 0, 0, 1})
	s.Edges = append(s.Edges, api.Edge{From: 5, To: 2})
	equal(t, "all of them", cyclesOf(t, s), []int{0, 0, 0, 0, 0, 0})
	// A step to a cycle that is closed joins nothing, though its number is less.
	s = api.System{States: 4, Labels: 1, Edges: edges(0, 0, 1, 1, 0, 0, 2, 0, 0, 2, 0, 3, 3, 0, 2, 3, 0, 1)}
	equal(t, "a closed cycle", cyclesOf(t, s), []int{0, 0, 1, 1})
}

func TestP1101AtTheLimits(t *testing.T) {
	equal(t, "a chain", cyclesOf(t, chain(1000)), upTo(1000))
	equal(t, "a ring", cyclesOf(t, ring(1000)), make([]int, 1000))
	equal(t, "a ladder", cyclesOf(t, ladder(1000)), make([]int, 1000))
	want := make([]int, 1000)
	for state := range want {
		want[state] = state / 7
	}
	equal(t, "rings", cyclesOf(t, rings(1000, 7)), want)
}

func TestP1102Given(t *testing.T) {
	c, classes := collapseOf(t, given())
	alike(t, "the example", c, api.System{States: 3, Labels: 2, Edges: edges(0, 1, 1, 1, 0, 2)})
	equal(t, "its classes", classes, []int{0, 0, 1, 2})
	c, classes = collapseOf(t, api.System{Labels: 5})
	alike(t, "no state", c, api.System{Labels: 5})
	equal(t, "no class", classes, nil)
	// Labels stay, whether an edge has them or not, and so do states that can't be reached.
	c, _ = collapseOf(t, api.System{States: 3, Labels: api.MaxLabels, Start: 2, Edges: edges(1, 0, 2, 2, 0, 1, 1, 0, 1)})
	alike(t, "all within one", c, api.System{States: 2, Labels: api.MaxLabels, Start: 1})
}

func TestP1102Edges(t *testing.T) {
	// Steps that are not silent stay within a class; of edges that are one between the classes one stays; they rise, whatever their order was.
	s := api.System{States: 5, Labels: 3, Start: 4, Edges: edges(4, 2, 1, 1, 2, 4, 4, 0, 1, 1, 0, 4, 4, 0, 3, 1, 0, 3, 1, 1, 1, 4, 1, 1, 0, 0, 4, 0, 0, 1, 3, 0, 2, 2, 0, 3, 2, 1, 0, 3, 1, 0, 3, 0, 3)}
	c, classes := collapseOf(t, s)
	equal(t, "the classes", classes, []int{0, 1, 2, 2, 1})
	alike(t, "the system", c, api.System{States: 3, Labels: 3, Start: 1, Edges: edges(0, 0, 1, 1, 0, 2, 1, 1, 1, 1, 2, 1, 2, 1, 0)})
}

func TestP1103Given(t *testing.T) {
	equal(t, "the example", orderOf(t, given()), []int{0, 1, 3, 2})
	equal(t, "no state", orderOf(t, api.System{Labels: 1}), nil)
	equal(t, "no step", orderOf(t, api.System{States: 3, Labels: 2, Start: 2, Edges: edges(0, 1, 2, 1, 1, 2)}), []int{0, 1, 2})
	equal(t, "loops", orderOf(t, api.System{States: 3, Labels: 1, Edges: edges(0, 0, 0, 1, 0, 1)}), []int{0, 1, 2})
	// The least one comes as soon as it may, ahead of others that might have come sooner.
	equal(t, "as soon as it may", orderOf(t, api.System{States: 5, Labels: 1, Edges: edges(0, 0, 2, 1, 0, 0, 2, 0, 3)}), []int{3, 2, 0, 1, 4})
	equal(t, "another one first", orderOf(t, api.System{States: 5, Labels: 1, Edges: edges(0, 0, 4, 1, 0, 3)}), []int{2, 3, 1, 4, 0})
	// It waits for all that its steps lead to, and an edge that stands twice is one.
	equal(t, "for all", orderOf(t, api.System{States: 4, Labels: 1, Edges: edges(0, 0, 1, 0, 0, 1, 0, 0, 3, 0, 0, 2, 0, 0, 3)}), []int{1, 2, 3, 0})
	// A class comes by its least state, and with all of its states, rising.
	equal(t, "classes", orderOf(t, api.System{States: 6, Labels: 1, Edges: edges(5, 0, 1, 1, 0, 3, 3, 0, 5, 2, 0, 4, 4, 0, 2, 0, 0, 3)}), []int{1, 3, 5, 0, 2, 4})
	equal(t, "classes in one another", orderOf(t, api.System{States: 4, Labels: 1, Edges: edges(0, 0, 3, 3, 0, 0, 1, 0, 2, 2, 0, 1, 3, 0, 1)}), []int{1, 2, 0, 3})
}

func TestP1103AtTheLimits(t *testing.T) {
	want := upTo(1000)
	slices.Reverse(want)
	equal(t, "a chain", orderOf(t, chain(1000)), want)
	equal(t, "a ring", orderOf(t, ring(1000)), upTo(1000))
	star := api.System{States: 1000, Labels: 1}
	for state := 1; state < 1000; state++ {
		star.Edges = append(star.Edges, api.Edge{From: 0, To: state})
	}
	equal(t, "a star", orderOf(t, star), append(upTo(1000)[1:], 0))
	for i, e := range star.Edges {
		star.Edges[i].From, star.Edges[i].To = e.To, e.From
	}
	equal(t, "a star, turned", orderOf(t, star), upTo(1000))
}

func TestP1104NoSilentCycle(t *testing.T) {
	for i, s := range append(several(), great()...) {
		c, _ := collapseOf(t, s)
		if c.States > s.States || len(c.Edges) > len(s.Edges) || system.Check(c) != nil {
			t.Fatalf("the system %d: collapsed to %d states, %d edges", i, c.States, len(c.Edges))
		}
		// One silent step, and then none or more: back at the state.
		r := leadsOf(c)
		for _, e := range c.Edges {
			if e.Label == api.Tau && r[e.To][e.From] {
				t.Fatalf("the system %d: %d comes from itself by silent steps", i, e.From)
			}
		}
		again, classes := collapseOf(t, c)
		alike(t, fmt.Sprint("the system ", i, ", twice"), again, c)
		equal(t, fmt.Sprint("the system ", i, ", twice"), classes, upTo(c.States))
	}
}

func TestTheOrderOfEdges(t *testing.T) {
	x := &numbers{at: 4}
	for range 100 {
		s := x.system(2+x.below(10), 2, 30)
		turned := s
		turned.Edges = slices.Clone(s.Edges)
		slices.Reverse(turned.Edges)
		turned.Edges = append(turned.Edges, s.Edges...)
		for name, call := range calls() {
			want, _ := call(s)
			if got, _ := call(turned); got != want {
				t.Errorf("%s of %v: %s, turned %s", name, s, want, got)
			}
		}
	}
}

// spoil writes over a list, and behind it.
func spoil[T any](list []T, with T) {
	for i := range list {
		list[i] = with
	}
	_ = append(list, with, with, with)
}

func TestAnswersAreNew(t *testing.T) {
	s := rings(30, 4)
	room := append(slices.Clone(s.Edges), api.Edge{From: 77})
	slices.Reverse(room[:len(room)-1])
	before := slices.Clone(room)
	s.Edges = room[:len(room)-1]
	told := func() string {
		all := ""
		for _, name := range []string{"Cycles", "Collapse", "Order"} {
			answer, _ := calls()[name](s)
			all += answer
		}
		return all
	}
	want := told()
	spoil(cyclesOf(t, s), -7)
	spoil(orderOf(t, s), -7)
	c, classes := collapseOf(t, s)
	kept := slices.Clone(classes)
	spoil(c.Edges, api.Edge{From: -7})
	equal(t, "the classes beside the system", classes, kept)
	spoil(classes, -7)
	if got := told(); got != want {
		t.Errorf("twice: %s, not %s", got, want)
	}
	if !slices.Equal(room, before) {
		t.Errorf("what was handed in: %v, not %v", room, before)
	}
}
