package strong_test

import (
	"errors"
	"fmt"
	"math/bits"
	"slices"
	"testing"

	"semblance/api"
	"semblance/strong"
)

const (
	least    = -1 << 63
	greatest = 1<<63 - 1
)

// equal fails, unless two lists are the same; nil and empty are one.
func equal(t *testing.T, what string, got, want []int) {
	t.Helper()
	if !slices.Equal(got, want) {
		t.Errorf("%s: %v, not %v", what, got, want)
	}
}

// classesOf tells Classes of a system that is one.
func classesOf(t *testing.T, s api.System) []int {
	t.Helper()
	c, err := strong.Classes(s)
	if err != nil {
		t.Fatal(s, err)
	}
	return c
}

// runOf tells Refine of a system that is one.
func runOf(t *testing.T, s api.System) api.Run {
	t.Helper()
	r, err := strong.Refine(s)
	if err != nil {
		t.Fatal(s, err)
	}
	return r
}

// refused fails, unless Replay refuses a run by one fault of this layer, without a place, that wraps just ErrClasses.
func refused(t *testing.T, what string, s api.System, takings ...[]int) {
	t.Helper()
	c, err := strong.Replay(s, takings)
	f, ok := err.(*api.Fault)
	if !ok || *f != (api.Fault{Layer: "strong", Err: api.ErrClasses}) {
		t.Errorf("%s: %v: %#v, not ErrClasses", what, takings, err)
	}
	if len(c) > 0 {
		t.Errorf("%s: %v: %v beside an error", what, takings, c)
	}
}

// taken fails, unless Replay takes a run, and tells the classes that are wanted.
func taken(t *testing.T, what string, s api.System, want []int, takings ...[]int) {
	t.Helper()
	c, err := strong.Replay(s, takings)
	if err != nil {
		t.Errorf("%s: %v: %v", what, takings, err)
	}
	equal(t, fmt.Sprint(what, ": ", takings), c, want)
}

// asModel fails, unless Replay takes or refuses a run just as the model does.
func asModel(t *testing.T, s api.System, takings ...[]int) {
	t.Helper()
	if want, is := modelOf(s).replay(takings); is {
		taken(t, fmt.Sprint(s), s, want, takings...)
	} else {
		refused(t, fmt.Sprint(s), s, takings...)
	}
}

// handedOn fails, unless err is a fault of this layer around one of system, neither with a place, around ErrSystem.
func handedOn(t *testing.T, what string, err error) {
	t.Helper()
	outer, ok := err.(*api.Fault)
	if !ok || outer.Layer != "strong" || outer.Line != 0 || outer.Col != 0 {
		t.Errorf("%s: %#v, no fault of strong", what, err)
		return
	}
	inner, ok := outer.Err.(*api.Fault)
	if !ok || *inner != (api.Fault{Layer: "system", Err: api.ErrSystem}) {
		t.Errorf("%s: it wraps %#v, not system's ErrSystem", what, outer.Err)
	}
	if !errors.Is(err, api.ErrSystem) || api.Code(err) != 14 {
		t.Errorf("%s: %v is told as %d", what, err, api.Code(err))
	}
}

// noSystems are systems that are none, one for each thing that may offend.
func noSystems() map[string]api.System {
	many := make([]api.Edge, api.MaxEdges+1)
	return map[string]api.System{
		"zero":             {},
		"states below 0":   {States: -1, Labels: 1},
		"states above all": {States: api.MaxStates + 1, Labels: 1},
		"states, far":      {States: greatest, Labels: 1},
		"no label":         {States: 1},
		"labels above all": {States: 1, Labels: api.MaxLabels + 1},
		"the start":        {States: 2, Labels: 1, Start: 2},
		"the start of 0":   {Labels: 1, Start: 1},
		"edges":            {States: 1, Labels: 1, Edges: many},
		"an edge of none":  {Labels: 1, Edges: many[:1]},
		"from":             {States: 2, Labels: 1, Edges: []api.Edge{{From: 2}}},
		"to":               {States: 2, Labels: 1, Edges: []api.Edge{{To: least}}},
		"a label":          {States: 2, Labels: 1, Edges: []api.Edge{{}, {Label: 1}}},
	}
}

func TestSystemsThatAreNone(t *testing.T) {
	for what, s := range noSystems() {
		c, err := strong.Classes(s)
		handedOn(t, what+": Classes", err)
		r, err := strong.Refine(s)
		handedOn(t, what+": Refine", err)
		if len(c) > 0 || len(r.Classes) > 0 || len(r.Takings) > 0 || len(r.Gauge) > 0 {
			t.Errorf("%s: %v, %v beside an error", what, c, r)
		}
		// What offends in a system is told ahead of what offends in a run.
		for _, takings := range [][][]int{nil, {{}}, {{0}}, {{0, 1}}, {{-1}, {greatest}}} {
			c, err := strong.Replay(s, takings)
			handedOn(t, fmt.Sprint(what, ": Replay ", takings), err)
			if len(c) > 0 {
				t.Errorf("%s: %v beside an error", what, c)
			}
		}
	}
}

func TestFaultsAreNew(t *testing.T) {
	calls := []func() error{
		func() error { _, err := strong.Classes(api.System{}); return err },
		func() error { _, err := strong.Refine(api.System{}); return err },
		func() error { _, err := strong.Replay(api.System{}, nil); return err },
		func() error { _, err := strong.Replay(given(), nil); return err },
	}
	for i, call := range calls {
		first, second := call(), call()
		if first == second || errors.Unwrap(first) == errors.Unwrap(second) && i < 3 {
			t.Errorf("the call %d: the same fault twice", i)
		}
		var f *api.Fault
		if !errors.As(first, &f) {
			t.Fatalf("the call %d: %v is no fault", i, first)
		}
		f.Err = api.ErrDeep
		if errors.Is(call(), api.ErrDeep) {
			t.Errorf("the call %d: a fault that was changed", i)
		}
	}
}

func TestP901Bisimilar(t *testing.T) {
	for _, s := range several() {
		equal(t, fmt.Sprint(s), classesOf(t, s), bisimilar(s))
	}
}

func TestP901Given(t *testing.T) {
	equal(t, "the example", classesOf(t, given()), []int{0, 1, 2, 1})
	equal(t, "no state", classesOf(t, api.System{Labels: 1}), nil)
	equal(t, "no edge", classesOf(t, api.System{States: 3, Labels: 2, Start: 2}), []int{0, 0, 0})
	// The silent label is as any other here.
	silent := api.System{States: 3, Labels: 2, Edges: []api.Edge{{From: 0, Label: 0, To: 1}, {From: 1, Label: 1, To: 1}, {From: 2, Label: 1, To: 2}}}
	equal(t, "a silent step", classesOf(t, silent), []int{0, 1, 1})
	// a.(b + c) and a.b + a.c have the same words, and are not bisimilar.
	late := api.System{States: 6, Labels: 4, Edges: []api.Edge{
		{From: 0, Label: 1, To: 1}, {From: 1, Label: 2, To: 5}, {From: 1, Label: 3, To: 5},
		{From: 2, Label: 1, To: 3}, {From: 2, Label: 1, To: 4}, {From: 3, Label: 2, To: 5}, {From: 4, Label: 3, To: 5},
	}}
	equal(t, "an early choice", classesOf(t, late), []int{0, 1, 2, 3, 4, 5})
}

func TestP901NumbersOfSteps(t *testing.T) {
	// How many steps lead into a class does not matter, nor that an edge stands twice.
	s := api.System{States: 5, Labels: 2}
	for _, to := range []int{2, 3, 4, 2, 2} {
		s.Edges = append(s.Edges, api.Edge{From: 0, Label: 1, To: to})
	}
	s.Edges = append(s.Edges, api.Edge{From: 1, Label: 1, To: 3})
	equal(t, "three steps and one", classesOf(t, s), []int{0, 0, 1, 1, 1})
	s.Edges = append(s.Edges, api.Edge{From: 4, Label: 0, To: 4})
	equal(t, "one that is unlike", classesOf(t, s), []int{0, 1, 2, 2, 3})
}

func TestP901StartAndOrder(t *testing.T) {
	x := &numbers{at: 4}
	for range 50 {
		s := x.system(2+x.below(10), 3, 20)
		want := classesOf(t, s)
		turned := s
		turned.Start = 1
		turned.Edges = slices.Clone(s.Edges)
		slices.Reverse(turned.Edges)
		turned.Edges = append(turned.Edges, s.Edges...)
		equal(t, fmt.Sprint(s, ", turned"), classesOf(t, turned), want)
	}
}

func TestP901AtTheLimits(t *testing.T) {
	all := upTo(1000)
	equal(t, "a chain", classesOf(t, chain(1000)), all)
	equal(t, "a ring with one loop", classesOf(t, ring(1000, 1000)), all)
	period := make([]int, 1000)
	for state := range period {
		period[state] = state % 125
	}
	equal(t, "a ring with eight", classesOf(t, ring(1000, 125)), period)
	height := make([]int, 511)
	for state := range height {
		height[state] = bits.Len(uint(state+1)) - 1
	}
	equal(t, "a full tree", classesOf(t, tree(511)), height)
	equal(t, "no edge", classesOf(t, api.System{States: 1000, Labels: 1}), make([]int, 1000))
	ends := api.System{States: 1000, Labels: api.MaxLabels, Edges: []api.Edge{{From: 999, Label: api.MaxLabels - 1, To: 0}}}
	equal(t, "one edge", classesOf(t, ends), append(make([]int, 999), 1))
}

func TestP902Given(t *testing.T) {
	s, all, want := given(), upTo(4), []int{0, 1, 2, 1}
	taken(t, "the example", s, want, all, []int{2}, []int{0})
	for _, takings := range [][][]int{
		{}, {all}, {{0, 1}}, {{}}, {nil}, {all, {}}, {all, {0, 1, 3}}, {all, {2}}, {all, {2}, {1, 3}},
		{all, all}, {all, {2}, {0}, {1}}, {all, {2}, {0}, {0}}, {all, {2}, {0}, {}}, {all, {2}, {2}, {0}},
		{all, {2, 2}}, {{0, 1, 2, 3, 3}}, {{0, 1, 2, 3, 4}}, {{3, 2, 1, 0}}, {{0, 0, 1, 2, 3}}, {{1, 2, 3}},
		{all, {9}}, {all, {-1}}, {all, {4}}, {{least}}, {{greatest}}, {all, {2}, {0, 4}}, {{2}, all}, {{2}, {0}},
	} {
		refused(t, "what is no run", s, takings...)
	}
}

func TestP902HalfOfAHeap(t *testing.T) {
	// Two with a step and two without: each is just half of the heap, and either may be taken.
	s := api.System{States: 4, Labels: 1, Edges: []api.Edge{{From: 0, To: 2}, {From: 1, To: 3}}}
	all := upTo(4)
	taken(t, "those without", s, []int{0, 0, 1, 1}, all, []int{2, 3})
	taken(t, "those with", s, []int{0, 0, 1, 1}, all, []int{0, 1})
	refused(t, "both", s, all, []int{0, 1}, []int{2, 3})
	refused(t, "part of a block", s, all, []int{2})
	refused(t, "not rising", s, all, []int{3, 2})
	// Three of five are more than half of it.
	s = api.System{States: 5, Labels: 1, Edges: []api.Edge{{From: 0, To: 2}, {From: 1, To: 3}}}
	refused(t, "three of five", s, upTo(5), []int{2, 3, 4})
	taken(t, "two of five", s, []int{0, 0, 1, 1, 1}, upTo(5), []int{0, 1})
}

func TestP902TheHeapNotTheRest(t *testing.T) {
	// Behind the first taking the blocks 0, 1, 2, 3 4 are of one heap: a block is held against what is left of it.
	s := api.System{States: 5, Labels: 4, Edges: []api.Edge{{From: 0, Label: 1, To: 4}, {From: 1, Label: 2, To: 4}, {From: 2, Label: 3, To: 4}}}
	want := []int{0, 1, 2, 3, 3}
	taken(t, "the pair first", s, want, upTo(5), []int{3, 4}, []int{0}, []int{2})
	taken(t, "the pair as half", s, want, upTo(5), []int{1}, []int{3, 4}, []int{2})
	refused(t, "the pair as two of three", s, upTo(5), []int{1}, []int{0}, []int{3, 4})
	refused(t, "one that is not taken", s, upTo(5), []int{1}, []int{0})
}

func TestP902NoState(t *testing.T) {
	s := api.System{Labels: 2}
	taken(t, "no taking", s, nil)
	for _, taking := range [][]int{nil, {}, {0}, {-1}, {0, 1}} {
		refused(t, "any taking", s, taking)
	}
	refused(t, "two", s, nil, nil)
}

func TestP902OneState(t *testing.T) {
	for _, s := range append(small(1, 2), api.System{States: 1, Labels: 1}) {
		taken(t, fmt.Sprint(s), s, []int{0}, []int{0})
		refused(t, fmt.Sprint(s), s)
		refused(t, fmt.Sprint(s), s, []int{0}, []int{0})
	}
}

func TestP902AllShortRuns(t *testing.T) {
	// All lists of at most three takings, each a list of at most three of the states and one that is none.
	systems := append(small(2, 1), small(3, 1)[100:116]...)
	for _, s := range systems {
		some := lists(s.States, upTo(s.States+1)...)
		indices := upTo(len(some))
		if s.States == 3 {
			// Of the first taking that is all states, so that the second and third ones are looked at.
			for _, pair := range lists(2, indices...) {
				takings := [][]int{upTo(3)}
				for _, i := range pair {
					takings = append(takings, some[i])
				}
				asModel(t, s, takings...)
			}
			continue
		}
		for _, three := range lists(3, indices...) {
			var takings [][]int
			for _, i := range three {
				takings = append(takings, some[i])
			}
			asModel(t, s, takings...)
		}
	}
}

// everyRun looks at each taking that the model may take next, and at what is near it.
func everyRun(t *testing.T, s api.System, takings [][]int, budget *int) {
	t.Helper()
	if *budget--; *budget < 0 {
		return
	}
	asModel(t, s, takings...)
	m := modelOf(s)
	m.replay(takings)
	for state := range s.States {
		block := where(m.blocks, m.blocks[state])
		asModel(t, s, append(slices.Clone(takings), block)...)
		asModel(t, s, append(slices.Clone(takings), block[1:])...)
	}
	for _, taking := range m.choices() {
		everyRun(t, s, append(slices.Clone(takings), taking), budget)
	}
}

func TestP902EveryRun(t *testing.T) {
	x := &numbers{at: 2}
	for n := range 60 {
		states := 2 + x.below(6)
		budget := 60
		everyRun(t, x.system(states, 1+n%3, 2*states), nil, &budget)
	}
}

// anyRun plays a run of the model's, chosen by numbers.
func anyRun(x *numbers, s api.System) [][]int {
	m := modelOf(s)
	var takings [][]int
	for choices := m.choices(); len(choices) > 0; choices = m.choices() {
		taking := choices[x.below(len(choices))]
		takings = append(takings, taking)
		m.take(taking)
	}
	return takings
}

func TestP902KeepsNothing(t *testing.T) {
	s := given()
	s.Edges = append(s.Edges, api.Edge{From: 7, Label: 7, To: 7})[:3]
	room := []int{0, 1, 2, 3, 2, 8, 0, 9}
	takings := [][]int{room[:4], room[4:5], room[6:7], {77}}
	for range 2 {
		c, err := strong.Replay(s, takings[:3])
		if err != nil {
			t.Fatal(err)
		}
		equal(t, "the classes", c, []int{0, 1, 2, 1})
		equal(t, "what was handed in", room, []int{0, 1, 2, 3, 2, 8, 0, 9})
		equal(t, "its spare room", takings[3], []int{77})
		for i := range c {
			c[i] = -1
		}
	}
	if !slices.Equal(s.Edges, given().Edges) || s.Edges[:4][3] != (api.Edge{From: 7, Label: 7, To: 7}) {
		t.Errorf("the edges were changed: %v", s.Edges[:4])
	}
}

// goodRun fails, unless what Refine tells is a run whose numbers fit.
func goodRun(t *testing.T, what string, s api.System, r api.Run) {
	t.Helper()
	taken(t, what, s, r.Classes, r.Takings...)
	gauge := make([]int, s.States)
	for _, taking := range r.Takings {
		for _, state := range taking {
			gauge[state]++
		}
	}
	equal(t, what+": Gauge", r.Gauge, gauge)
	bounded(t, what, s.States, gauge)
}

// bounded fails, if a state is in more than floor(log2 n) + 1 takings, or with a state one is in none.
func bounded(t *testing.T, what string, n int, gauge []int) {
	t.Helper()
	for state, times := range gauge {
		if times < 1 || times > bits.Len(uint(n)) {
			t.Errorf("%s: of %d states, %d is in %d takings", what, n, state, times)
		}
	}
}

func TestP903Refine(t *testing.T) {
	for _, s := range several() {
		r, what := runOf(t, s), fmt.Sprint(s)
		equal(t, what+": Classes", r.Classes, bisimilar(s))
		goodRun(t, what, s, r)
		if want, is := modelOf(s).replay(r.Takings); !is {
			t.Errorf("%s: %v is no run", what, r.Takings)
		} else {
			equal(t, what, r.Classes, want)
		}
	}
}

func TestP903AtTheLimits(t *testing.T) {
	for i, s := range great() {
		what := fmt.Sprint("the great system ", i)
		r := runOf(t, s)
		goodRun(t, what, s, r)
		equal(t, what, r.Classes, byRounds(s))
		equal(t, what, r.Classes, classesOf(t, s))
		// Each taking makes one heap, and behind the last one each block is one.
		if blocks := slices.Max(r.Classes) + 1; len(r.Takings) != blocks {
			t.Errorf("%s: %d takings, %d classes", what, len(r.Takings), blocks)
		}
		equal(t, what+": the first taking", r.Takings[0], upTo(s.States))
	}
}

func TestP903NoState(t *testing.T) {
	r := runOf(t, api.System{Labels: 1})
	if len(r.Classes) > 0 || len(r.Takings) > 0 || len(r.Gauge) > 0 {
		t.Errorf("no state: %v", r)
	}
}

func TestP903AnswersAreNew(t *testing.T) {
	s := ring(24, 8)
	edges := append(slices.Clone(s.Edges), api.Edge{From: 77})
	s.Edges = edges[:len(edges)-1]
	first := runOf(t, s)
	want := fmt.Sprint(first)
	second := runOf(t, s)
	if fmt.Sprint(second) != want {
		t.Errorf("twice: %v, not %v", second, want)
	}
	for _, list := range append(first.Takings, first.Classes, first.Gauge) {
		_ = append(list, -7, -7, -7)
		for i := range list {
			list[i] = -7
		}
	}
	if fmt.Sprint(second) != want || fmt.Sprint(runOf(t, s)) != want {
		t.Errorf("changed: %v, not %v", second, want)
	}
	// No list shares its room with another one.
	for i, list := range second.Takings {
		_ = append(list, -7, -7, -7)
		if fmt.Sprint(second) != want {
			t.Fatalf("the taking %d has room in another list", i)
		}
	}
	if !slices.Equal(edges, append(ring(24, 8).Edges, api.Edge{From: 77})) {
		t.Error("the edges were changed")
	}
}

func TestP904AnyRun(t *testing.T) {
	x := &numbers{at: 1}
	for n := range 400 {
		states := 1 + x.below(14)
		s := x.system(states, 1+n%3, 2*states)
		want := bisimilar(s)
		for range 3 {
			takings := anyRun(x, s)
			taken(t, fmt.Sprint(s), s, want, takings...)
			gauge := make([]int, states)
			for _, taking := range takings {
				for _, state := range taking {
					gauge[state]++
				}
			}
			bounded(t, fmt.Sprint(s, takings), states, gauge)
		}
	}
}

func TestP904Greater(t *testing.T) {
	x := &numbers{at: 3}
	for _, s := range []api.System{chain(60), ring(64, 64), ring(60, 12), tree(50), x.system(60, 3, 100), x.system(64, 2, 90)} {
		want := bisimilar(s)
		equal(t, fmt.Sprint(s), classesOf(t, s), want)
		for range 5 {
			taken(t, fmt.Sprint(s), s, want, anyRun(x, s)...)
		}
	}
}

func TestP904RunsOfManyStates(t *testing.T) {
	// A ring of 2^k states with one loop: all states are told apart, none in more than k + 1 takings.
	for k := range 10 {
		for _, n := range []int{1<<k - 1, 1 << k, 1<<k + 1} {
			if n < 1 {
				continue
			}
			s := ring(n, n)
			r := runOf(t, s)
			equal(t, fmt.Sprint("a ring of ", n), r.Classes, upTo(n))
			goodRun(t, fmt.Sprint("a ring of ", n), s, r)
		}
	}
}
