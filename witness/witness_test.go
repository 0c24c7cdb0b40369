package witness_test

import (
	"errors"
	"fmt"
	"slices"
	"sync"
	"testing"

	"semblance/api"
	"semblance/branching"
	"semblance/generate"
	"semblance/simul"
	"semblance/source"
	"semblance/strong"
	"semblance/system"
	"semblance/weak"
	"semblance/witness"
)

// way is one of the three calls that classes are given to, and what it is held against.
type way struct {
	name    string
	call    func(api.System, []int) (witness.Fail, bool, error)
	meets   manner
	offers  func(*model, []int) manner
	classes func(api.System) ([]int, error)
	most    int // states
}

func ways() []way {
	return []way{
		{"Strong", witness.Strong, strongly, strongOffers, strong.Classes, api.MaxStates},
		{"Branching", witness.Branching, branchingly, branchingOffers, branching.Classes, api.MaxStates},
		{"Weak", witness.Weak, weakly, weakOffers, weak.Classes, api.MaxPairs},
	}
}

// told is what a call tells beside an error.
type told struct {
	fail witness.Fail
	is   bool
}

// yes is what is told of a bisimulation, or a simulation.
func yes() told { return told{is: true} }

// no is what is told where a step is not met.
func no(p, q, label, to int) told {
	return told{fail: witness.Fail{P: p, Q: q, Label: label, To: to}}
}

// answer tells what a call tells that has no error.
func answer(t *testing.T, what string, fail witness.Fail, is bool, err error) told {
	t.Helper()
	if err != nil {
		t.Fatalf("%s: %v", what, err)
	}
	return told{fail, is}
}

// of asks a way about classes.
func (w way) of(t *testing.T, s api.System, classes []int) told {
	t.Helper()
	fail, is, err := w.call(s, classes)
	return answer(t, w.name, fail, is, err)
}

// simulation asks about pairs.
func simulation(t *testing.T, s api.System, pairs ...[2]int) told {
	t.Helper()
	fail, is, err := witness.Simulation(s, pairs)
	return answer(t, "Simulation", fail, is, err)
}

// equal fails, unless it is told what is wanted.
func equal(t *testing.T, what string, got, want told) {
	t.Helper()
	if got != want {
		t.Errorf("%s: %v, not %v", what, got, want)
	}
}

// holds fails, unless a way tells of classes what the words say.
func (w way) holds(t *testing.T, m *model, s api.System, classes []int) told {
	t.Helper()
	fail, is := m.byClasses(classes, w.meets)
	got := w.of(t, s, classes)
	if got != (told{fail, is}) {
		t.Fatalf("%s of %v by %v: %v, not %v, %v", w.name, s, classes, got, fail, is)
	}
	return got
}

// classesOf tells the classes of bisimilarity.
func (w way) classesOf(t *testing.T, s api.System) []int {
	t.Helper()
	classes, err := w.classes(s)
	if err != nil {
		t.Fatal(w.name, s, err)
	}
	return classes
}

// calls are the calls of the package, each with something that it takes of that many states.
func calls() map[string]func(api.System) (told, error) {
	all := map[string]func(api.System) (told, error){
		"Simulation": func(s api.System) (told, error) {
			fail, is, err := witness.Simulation(s, [][2]int{{0, 0}, {1, 1}, {0, 1}})
			return told{fail, is}, err
		},
		"Simulation, far": func(s api.System) (told, error) {
			fail, is, err := witness.Simulation(s, [][2]int{{least, greatest}})
			return told{fail, is}, err
		},
		"Simulation, many": func(s api.System) (told, error) {
			fail, is, err := witness.Simulation(s, make([][2]int, api.MaxEdges+1))
			return told{fail, is}, err
		},
	}
	for _, w := range ways() {
		all[w.name] = func(s api.System) (told, error) {
			fail, is, err := w.call(s, make([]int, max(0, min(s.States, 1000))))
			return told{fail, is}, err
		}
		all[w.name+", none"] = func(s api.System) (told, error) {
			fail, is, err := w.call(s, []int{-1})
			return told{fail, is}, err
		}
	}
	return all
}

// handedOn fails, unless err is a fault of this layer around one of system, neither with a place, around ErrSystem.
func handedOn(t *testing.T, what string, err error) {
	t.Helper()
	outer, ok := err.(*api.Fault)
	if !ok || outer.Layer != "witness" || outer.Line != 0 || outer.Col != 0 {
		t.Errorf("%s: %#v, no fault of witness", what, err)
		return
	}
	inner, ok := outer.Err.(*api.Fault)
	if !ok || *inner != (api.Fault{Layer: "system", Err: api.ErrSystem}) {
		t.Errorf("%s: it wraps %#v, not system's ErrSystem", what, outer.Err)
	}
	if !errors.Is(err, api.ErrSystem) || api.Code(err) != 14 {
		t.Errorf("%s: %v is told as %d", what, err, api.Code(err))
	}
}

// refused fails, unless a call answers a fault of this layer alone, without a place, around one of api's errors, and nothing beside it.
func refused(t *testing.T, what string, fail witness.Fail, is bool, err, want error) {
	t.Helper()
	if f, ok := err.(*api.Fault); !ok || *f != (api.Fault{Layer: "witness", Err: want}) || api.Code(err) != api.Code(want) {
		t.Errorf("%s: %#v, not %v", what, err, want)
	}
	equal(t, what+": beside an error", told{fail, is}, told{})
}

func TestSystemsThatAreNone(t *testing.T) {
	for name, call := range calls() {
		for what, s := range noSystems() {
			got, err := call(s)
			handedOn(t, name+": "+what, err)
			equal(t, name+": "+what+": beside an error", got, told{})
		}
	}
}

func TestFaultsAreNew(t *testing.T) {
	for name, call := range calls() {
		for _, s := range []api.System{{}, {States: 301, Labels: 1}, {Labels: 1}, {States: 3, Labels: 1}} {
			_, first := call(s)
			_, second := call(s)
			if first == nil {
				continue
			}
			var f *api.Fault
			if first == second || !errors.As(first, &f) {
				t.Fatalf("%s: %v, then %v", name, first, second)
			}
			f.Err = api.ErrDeep
			if _, err := call(s); errors.Is(err, api.ErrDeep) {
				t.Errorf("%s: a fault that was changed", name)
			}
		}
	}
}

func TestP1901ClassesThatAreNone(t *testing.T) {
	for _, w := range ways() {
		for _, classes := range [][]int{nil, {}, {0}, {0, 0, 0, 0}, {0, 0, 0, 0, 0, 0}, {1, 0, 0, 0, 0}, {0, 2, 1, 0, 0}, {0, 1, 3, 2, 0}, {0, 0, 0, 0, -1}, {0, 0, 0, 0, 2}, {0, least, 0, 0, 0}, {0, 1, 2, 3, greatest}} {
			fail, is, err := w.call(given(), classes)
			refused(t, fmt.Sprint(w.name, " of ", classes), fail, is, err, api.ErrClasses)
		}
		fail, is, err := w.call(api.System{Labels: 1}, []int{0})
		refused(t, w.name+" of no state", fail, is, err, api.ErrClasses)
		for _, classes := range [][]int{nil, {}} {
			equal(t, w.name+" of no state", w.of(t, api.System{Labels: 1}, classes), yes())
		}
	}
}

func TestP1901TooManyStates(t *testing.T) {
	for _, states := range []int{301, 302, 320, 999, 1000} {
		for _, s := range []api.System{{States: states, Labels: 1}, chain(states, 1)} {
			what := fmt.Sprint("of ", states, " states")
			for _, classes := range [][]int{make([]int, states), upTo(states)} {
				fail, is, err := witness.Weak(s, classes)
				refused(t, "Weak "+what, fail, is, err, api.ErrLong)
			}
			// Whether the classes are some is asked ahead of it.
			for _, classes := range [][]int{nil, make([]int, states-1), slices.Repeat([]int{1}, states)} {
				fail, is, err := witness.Weak(s, classes)
				refused(t, "Weak by no classes "+what, fail, is, err, api.ErrClasses)
			}
			equal(t, "Strong "+what, ways()[0].of(t, s, upTo(states)), yes())
			equal(t, "Branching "+what, ways()[1].of(t, s, upTo(states)), yes())
		}
	}
	for _, w := range ways() {
		equal(t, w.name+" of 300 states", w.of(t, chain(300, 1), upTo(300)), yes())
		equal(t, w.name+" of 300 states, all together", w.of(t, chain(300, 1), make([]int, 300)), no(0, 299, 1, 1))
	}
}

func TestP1901Given(t *testing.T) {
	s := given()
	for _, c := range []struct {
		classes                 []int
		strong, branching, weak told
	}{
		{[]int{0, 0, 1, 2, 2}, no(0, 1, 1, 4), yes(), yes()},
		{[]int{0, 1, 2, 3, 3}, yes(), yes(), yes()},
		{[]int{0, 1, 2, 3, 4}, yes(), yes(), yes()},
		{[]int{0, 0, 0, 1, 1}, no(0, 1, 1, 4), no(2, 0, 0, 3), no(2, 0, 0, 3)},
		{[]int{0, 0, 0, 0, 0}, no(0, 1, 1, 4), no(0, 3, 1, 4), no(0, 3, 1, 4)},
		{[]int{0, 1, 1, 2, 2}, no(1, 2, 0, 0), no(1, 2, 0, 0), no(1, 2, 0, 0)},
	} {
		equal(t, fmt.Sprint("Strong by ", c.classes), ways()[0].of(t, s, c.classes), c.strong)
		equal(t, fmt.Sprint("Branching by ", c.classes), ways()[1].of(t, s, c.classes), c.branching)
		equal(t, fmt.Sprint("Weak by ", c.classes), ways()[2].of(t, s, c.classes), c.weak)
	}
}

func TestP1901TheFirstOne(t *testing.T) {
	// Both 0 and 1 have steps that 2 and 3 don't meet, which stand in no order, and twice.
	s := api.System{States: 5, Labels: 4, Start: 4, Edges: edges(1, 3, 4, 1, 1, 4, 0, 3, 4, 0, 2, 4, 0, 2, 3, 0, 2, 4, 2, 3, 4, 3, 3, 4, 1, 2, 0)}
	for _, w := range ways() {
		equal(t, w.name+": P", w.of(t, s, []int{0, 1, 0, 0, 2}), no(0, 2, 2, 3))
		equal(t, w.name+": Q", w.of(t, s, []int{0, 0, 0, 0, 1}), no(0, 1, 2, 4))
		equal(t, w.name+": the label", w.of(t, s, []int{0, 1, 1, 2, 3}), no(1, 2, 1, 4))
		// All that 2 does is met, but not what is related to it does.
		equal(t, w.name+": the other way", w.of(t, s, []int{0, 1, 2, 1, 3}), no(1, 3, 1, 4))
		equal(t, w.name+": a later one", w.of(t, s, []int{0, 1, 2, 2, 3}), yes())
	}
	// The one of less steps is the first one.
	s = api.System{States: 4, Labels: 3, Edges: edges(0, 1, 2, 1, 1, 2, 1, 2, 3, 1, 1, 3)}
	for _, w := range ways() {
		equal(t, w.name+": by the second one", w.of(t, s, []int{0, 0, 1, 2}), no(1, 0, 1, 3))
		equal(t, w.name+": by its label", w.of(t, s, []int{0, 0, 1, 1}), no(1, 0, 2, 3))
	}
}

func TestP1901SilentSteps(t *testing.T) {
	all := func(what string, s api.System, classes []int, strong, branching, weak told) {
		t.Helper()
		for i, want := range []told{strong, branching, weak} {
			equal(t, ways()[i].name+": "+what, ways()[i].of(t, s, classes), want)
		}
	}
	// To stay is to meet a silent step, if that leads to who is related.
	all("to stay", api.System{States: 2, Labels: 1, Edges: edges(0, 0, 1)}, []int{0, 0}, no(0, 1, 0, 1), yes(), yes())
	all("to stay, not silent", api.System{States: 2, Labels: 2, Edges: edges(0, 1, 1)}, []int{0, 0}, no(0, 1, 1, 1), no(0, 1, 1, 1), no(0, 1, 1, 1))
	all("to go elsewhere", api.System{States: 3, Labels: 1, Edges: edges(0, 0, 2)}, []int{0, 0, 1}, no(0, 1, 0, 2), no(0, 1, 0, 2), no(0, 1, 0, 2))
	// 1 meets the step 0 1 4 behind silent steps to 2 and 3: what they lead through may be related or not, where they end is to be, but in the weak manner.
	s := api.System{States: 5, Labels: 2, Edges: edges(0, 1, 4, 1, 0, 2, 2, 0, 3, 3, 1, 4)}
	all("all related", s, []int{0, 0, 0, 0, 1}, no(0, 1, 1, 4), yes(), yes())
	all("through others, related again", api.System{States: 5, Labels: 2, Edges: append(edges(0, 0, 2, 3, 0, 2), s.Edges...)}, []int{0, 0, 1, 0, 2}, no(0, 1, 1, 4), yes(), yes())
	all("through others, met by none", s, []int{0, 0, 1, 0, 2}, no(0, 1, 1, 4), no(1, 0, 0, 2), no(1, 0, 0, 2))
	all("to others", api.System{States: 5, Labels: 2, Edges: append(edges(0, 0, 3), s.Edges...)}, []int{0, 0, 1, 2, 3}, no(0, 1, 0, 3), no(0, 1, 0, 3), no(1, 0, 0, 2))
	// Silent steps behind a step, and several of them for one, count in the weak manner alone.
	s = api.System{States: 5, Labels: 2, Edges: edges(0, 1, 4, 1, 1, 2, 2, 0, 3)}
	all("behind", s, []int{0, 0, 1, 2, 2}, no(0, 1, 1, 4), no(0, 1, 1, 4), no(1, 0, 1, 2))
	s.Edges = append(s.Edges, edges(0, 1, 2)...)
	all("behind, both", s, []int{0, 0, 1, 2, 2}, no(0, 1, 1, 4), no(0, 1, 1, 4), yes())
	s = api.System{States: 5, Labels: 1, Edges: edges(0, 0, 2, 0, 0, 4, 1, 0, 2, 2, 0, 3)}
	all("several for one", s, []int{0, 0, 1, 2, 2}, no(0, 1, 0, 4), no(0, 1, 0, 4), yes())
	// a.(tau.b + c) + a.b and a.(tau.b + c).
	s = api.System{States: 5, Labels: 4, Edges: edges(0, 1, 2, 0, 1, 3, 1, 1, 2, 2, 0, 3, 2, 3, 4, 3, 2, 4)}
	all("a law of the weak manner", s, []int{0, 0, 1, 2, 3}, no(0, 1, 1, 3), no(0, 1, 1, 3), yes())
}

func TestP1901EachParting(t *testing.T) {
	for _, s := range tiny() {
		m := modelOf(s)
		for _, classes := range partings(s.States) {
			for _, w := range ways() {
				w.holds(t, m, s, classes)
			}
		}
	}
}

// near tells classes that are some of bisimilarity, or nearly so.
func (x *numbers) near(classes []int) [][]int {
	states := len(classes)
	all := [][]int{classes, parted(classes, x.below(states)), merged(classes, x.below(states), states-1)}
	return append(all, merged(classes, x.below(states), x.below(states)), parted(merged(classes, x.below(states), x.below(states)), states-1))
}

func TestP1901AsTheWordsHaveIt(t *testing.T) {
	x := &numbers{at: 12}
	passed := map[string]int{}
	for _, s := range several() {
		for _, one := range []api.System{s, x.disturbed(s)} {
			m := modelOf(one)
			for _, w := range ways() {
				lists := append(x.near(w.classesOf(t, s)), x.classes(s.States, 2), x.classes(s.States, s.States))
				for _, classes := range lists {
					if w.holds(t, m, one, classes).is {
						passed[w.name]++
					}
				}
			}
		}
	}
	for _, w := range ways() {
		if passed[w.name] < 1000 {
			t.Errorf("%s: only %d pass", w.name, passed[w.name])
		}
	}
}

func TestP1901AtTheLimits(t *testing.T) {
	x := &numbers{at: 31}
	for _, w := range ways() {
		for i, s := range great(w.most) {
			classes, m := w.classesOf(t, s), modelOf(s)
			for _, c := range [][]int{classes, merged(classes, x.below(w.most), w.most-1), parted(merged(classes, w.most/2, x.below(w.most)), w.most-1), make([]int, w.most)} {
				fail, is := m.byClasses(c, w.offers(m, c))
				equal(t, fmt.Sprint(w.name, " of the great system ", i), w.of(t, s, c), told{fail, is})
			}
		}
	}
}

func TestP1902Given(t *testing.T) {
	s := given()
	equal(t, "the example", simulation(t, s, [2]int{0, 2}, [2]int{4, 4}), yes())
	equal(t, "the other way", simulation(t, s, [2]int{2, 0}), no(2, 0, 0, 3))
	equal(t, "no pair", simulation(t, s), yes())
	equal(t, "an end alone", simulation(t, s, [2]int{0, 2}), no(0, 2, 1, 4))
	equal(t, "no step", simulation(t, s, [2]int{3, 0}, [2]int{4, 1}), yes())
	equal(t, "no silent steps between", simulation(t, s, [2]int{0, 1}, [2]int{4, 4}), no(0, 1, 1, 4))
	equal(t, "no staying", simulation(t, s, [2]int{1, 0}, [2]int{0, 0}, [2]int{4, 4}), no(1, 0, 0, 0))
	// Of the pairs in the order in which they stand.
	equal(t, "the last one", simulation(t, s, [2]int{4, 0}, [2]int{2, 0}, [2]int{1, 0}), no(2, 0, 0, 3))
	equal(t, "the greater one ahead", simulation(t, s, [2]int{2, 1}, [2]int{1, 0}, [2]int{0, 1}), no(2, 1, 0, 3))
	equal(t, "twice", simulation(t, s, [2]int{4, 0}, [2]int{1, 0}, [2]int{4, 0}, [2]int{0, 3}, [2]int{1, 0}), no(1, 0, 0, 0))
	// A pair may be needed that stands behind.
	equal(t, "behind", simulation(t, s, [2]int{1, 1}, [2]int{0, 0}, [2]int{4, 4}), yes())
	// The first pair is all zero; it is not what is told where all steps are met.
	loop := api.System{States: 2, Labels: 2, Edges: edges(0, 0, 0, 0, 1, 0, 1, 0, 1)}
	equal(t, "a loop", simulation(t, loop, [2]int{0, 0}), yes())
	equal(t, "no such loop", simulation(t, loop, [2]int{0, 1}), no(0, 1, 1, 0))
	equal(t, "a silent one", simulation(t, api.System{States: 2, Labels: 1, Edges: edges(0, 0, 0)}, [2]int{0, 1}), no(0, 1, 0, 0))
	equal(t, "away from 0", simulation(t, api.System{States: 2, Labels: 1, Edges: edges(0, 0, 1)}, [2]int{0, 0}), no(0, 0, 0, 1))
	equal(t, "no state", simulation(t, api.System{Labels: 1}), yes())
	// By rising label, then to where it leads.
	many := api.System{States: 4, Labels: 3, Edges: edges(0, 2, 0, 0, 1, 3, 0, 1, 2, 1, 2, 2)}
	equal(t, "the first step", simulation(t, many, [2]int{0, 1}), no(0, 1, 1, 2))
}

func TestP1902AsTheWordsHaveIt(t *testing.T) {
	x := &numbers{at: 5}
	passed := 0
	for _, s := range several() {
		m := modelOf(s)
		above, err := simul.Above(s)
		if err != nil {
			t.Fatal(s, err)
		}
		var all [][2]int
		for p, row := range above {
			for _, q := range row {
				all = append(all, [2]int{p, q})
			}
		}
		all = all[:min(len(all), api.MaxEdges/2)]
		var order [][2]int
		for _, i := range x.order(len(all)) {
			order = append(order, all[i])
		}
		less := slices.Delete(slices.Clone(order), len(order)/2, len(order)/2+1)
		more := slices.Insert(slices.Clone(order), x.below(len(order)), x.pairs(s.States, 1)...)
		lists := [][][2]int{all, order, less, more, append(slices.Clone(order), all...), x.pairs(s.States, 1), x.pairs(s.States, 5), x.pairs(s.States, 3*s.States)}
		for _, pairs := range lists {
			fail, is := m.byPairs(pairs)
			equal(t, fmt.Sprint(s, pairs), simulation(t, s, pairs...), told{fail, is})
			if is {
				passed++
			}
		}
		if t.Failed() {
			return
		}
	}
	if passed < 2000 {
		t.Errorf("only %d pass", passed)
	}
}

func TestP1902WhatIsRefused(t *testing.T) {
	ask := func(what string, s api.System, pairs [][2]int, want error) {
		t.Helper()
		fail, is, err := witness.Simulation(s, pairs)
		refused(t, what, fail, is, err, want)
	}
	for _, n := range []int{least, -1, 5, 300, 1000, greatest} {
		for _, pair := range [][2]int{{n, 0}, {0, n}, {n, n}, {n, 4}, {4, n}, {least, n}, {n, greatest}} {
			ask(fmt.Sprint(pair), given(), [][2]int{pair}, api.ErrIndex)
			// Also behind one whose step is not met.
			ask(fmt.Sprint("behind, ", pair), given(), [][2]int{{2, 0}, {4, 4}, pair}, api.ErrIndex)
		}
	}
	ask("no state", api.System{Labels: 1}, [][2]int{{0, 0}}, api.ErrIndex)
	ask("300 states", chain(300, 1), [][2]int{{299, 300}}, api.ErrIndex)
	for _, states := range []int{301, 302, 320, 1000} {
		ask("many states", chain(states, 1), nil, api.ErrLong)
		ask("many states, no such pair", chain(states, 1), [][2]int{{states, -1}}, api.ErrLong)
	}
	for _, many := range []int{10001, 10002, 20000, 90001} {
		pairs := make([][2]int, many)
		ask("many pairs", given(), pairs, api.ErrLong)
		ask("many pairs of no state", api.System{Labels: 1}, pairs, api.ErrLong)
		pairs[0] = [2]int{-1, 9}
		ask("many pairs, one of no state", given(), pairs, api.ErrLong)
	}
	ask("so many pairs, of no state", api.System{Labels: 1}, make([][2]int, 10000), api.ErrIndex)
}

func TestP1902AtTheLimits(t *testing.T) {
	x := &numbers{at: 8}
	// Each pair as often as may be.
	full := api.System{States: 2, Labels: api.MaxLabels}
	for label := range api.MaxLabels {
		full.Edges = append(full.Edges, edges(0, label, 0, 0, label, 1, 1, label, 1, 1, label, 0)...)
	}
	pairs := slices.Repeat([][2]int{{0, 0}, {0, 1}, {1, 0}, {1, 1}}, api.MaxEdges/4)
	equal(t, "10000 pairs", simulation(t, full, pairs...), yes())
	for i, s := range great(api.MaxPairs) {
		m := modelOf(s)
		var same, chance [][2]int
		for state := range s.States {
			same = append(same, [2]int{state, state})
		}
		same = append(same, slices.Repeat([][2]int{{299, 299}}, api.MaxEdges-301)...)
		equal(t, fmt.Sprint("each itself, of the great system ", i), simulation(t, s, same...), yes())
		same = append(same, [2]int{298, 299})
		chance = x.pairs(s.States, api.MaxEdges)
		for _, pairs := range [][][2]int{same, chance, chance[:4000]} {
			fail, is := m.byPairs(pairs)
			equal(t, fmt.Sprint("of the great system ", i), simulation(t, s, pairs...), told{fail, is})
		}
	}
}

func TestP1903TheClassesPass(t *testing.T) {
	for _, s := range append(several(), tiny()...) {
		for i, w := range ways() {
			classes := w.classesOf(t, s)
			// Who is strongly bisimilar is so in the branching manner, and so on: each relation of the one kind is of the others.
			for _, other := range ways()[i:] {
				equal(t, fmt.Sprint(other.name, " of the classes of ", w.name, " of ", s), other.of(t, s, classes), yes())
			}
			if t.Failed() {
				return
			}
		}
		fine := ways()[0].classesOf(t, s)
		equal(t, fmt.Sprint("Simulation of ", s), simulation(t, s, slices.Collect(together(fine))...), yes())
	}
}

func TestP1903NoOthersPass(t *testing.T) {
	for _, s := range tiny() {
		for _, w := range ways() {
			widest := w.classesOf(t, s)
			for _, classes := range partings(s.States) {
				if w.of(t, s, classes).is && !isFiner(classes, widest) {
					t.Fatalf("%s of %v: %v pass, and are not of %v", w.name, s, classes, widest)
				}
			}
		}
	}
	x := &numbers{at: 15}
	for _, s := range several() {
		for _, w := range ways() {
			widest := w.classesOf(t, s)
			p, q := x.below(s.States), x.below(s.States)
			got := w.of(t, s, merged(widest, p, q))
			if got.is != (widest[p] == widest[q]) {
				t.Fatalf("%s of %v: with %d and %d made one: %v", w.name, s, p, q, got)
			}
		}
	}
}

func TestTerms(t *testing.T) {
	program, err := source.Parse("P = a.P + tau.Q\nQ = b.P + tau.Q\nR = a.(tau.b.0 + c.0) + a.b.0\n")
	if err != nil {
		t.Fatal(err)
	}
	for _, text := range []string{"0", "P", "P | Q", "R", "(P | R[c/a])\\{b}", "R + a.(tau.b.0 + c.0)", "tau.(P | 'a.R)", "(a.R | 'a.P | b.0)\\{a}"} {
		id, err := program.Term(text)
		if err != nil {
			t.Fatal(text, err)
		}
		space, err := generate.From(program, id)
		if err != nil {
			t.Fatal(text, err)
		}
		s := space.System()
		m := modelOf(s)
		for _, w := range ways() {
			classes := w.classesOf(t, s)
			equal(t, w.name+" of "+text, w.holds(t, m, s, classes), yes())
			for p := range s.States {
				if got := w.holds(t, m, s, merged(classes, p, 0)); got.is != (classes[p] == classes[0]) {
					t.Errorf("%s of %s: %d with the start: %v", w.name, text, p, got)
				}
			}
		}
	}
}

func TestTheOrderOfEdges(t *testing.T) {
	x := &numbers{at: 4}
	for range 300 {
		s := x.system(2+x.below(10), 3, 30)
		turned := s
		turned.Edges = slices.Clone(s.Edges)
		slices.Reverse(turned.Edges)
		turned.Edges = append(turned.Edges, s.Edges...)
		// The start does not matter, either.
		turned.Start = s.States - 1 - s.Start
		pairs := x.pairs(s.States, 4)
		equal(t, fmt.Sprint("Simulation of ", s, pairs), simulation(t, turned, pairs...), simulation(t, s, pairs...))
		for _, w := range ways() {
			for _, classes := range x.near(w.classesOf(t, s)) {
				equal(t, fmt.Sprint(w.name, " of ", s, classes), w.of(t, turned, classes), w.of(t, s, classes))
			}
		}
	}
}

func TestWhatIsHandedInStays(t *testing.T) {
	x := &numbers{at: 8}
	s := x.blown(x.system(6, 3, 20), 30)
	room := append(slices.Clone(s.Edges), edge(77, 0, 0))
	slices.Reverse(room[:len(room)-1])
	before := slices.Clone(room)
	s.Edges = room[:len(room)-1]
	for _, w := range ways() {
		classes := append(w.classesOf(t, s), 99)
		stay := slices.Clone(classes)
		equal(t, w.name, w.of(t, s, classes[:30]), yes())
		if !slices.Equal(classes, stay) || !system.Classes(s, classes[:30]) {
			t.Errorf("%s: the classes are %v now, not %v", w.name, classes, stay)
		}
	}
	pairs := append(x.pairs(30, 40), [2]int{99, 99})
	stay := slices.Clone(pairs)
	fail, is := modelOf(s).byPairs(pairs[:40])
	for range 2 {
		equal(t, "Simulation", simulation(t, s, pairs[:40]...), told{fail, is})
	}
	if !slices.Equal(pairs, stay) {
		t.Errorf("the pairs are %v now, not %v", pairs, stay)
	}
	if !slices.Equal(room, before) {
		t.Errorf("the edges are %v now, not %v", room, before)
	}
}

func TestSideBySide(t *testing.T) {
	s := (&numbers{at: 2}).blown(given(), 40)
	classes := ways()[1].classesOf(t, s)
	fail, is := modelOf(s).byClasses(classes, strongly)
	var all sync.WaitGroup
	for range 8 {
		all.Go(func() {
			if got, passes, err := witness.Strong(s, classes); err != nil || got != fail || passes != is {
				t.Errorf("side by side: Strong: %v, %v, %v", got, passes, err)
			}
			if _, passes, err := witness.Branching(s, classes); err != nil || !passes {
				t.Errorf("side by side: Branching: %v, %v", passes, err)
			}
		})
	}
	all.Wait()
}
