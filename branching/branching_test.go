package branching_test

import (
	"errors"
	"fmt"
	"slices"
	"testing"

	"semblance/api"
	"semblance/branching"
	"semblance/generate"
	"semblance/source"
	"semblance/strong"
	"semblance/system"
	"semblance/tauscc"
)

// equal fails, unless two lists are the same; nil and empty are one.
func equal[T comparable](t *testing.T, what string, got, want []T) {
	t.Helper()
	if !slices.Equal(got, want) {
		t.Errorf("%s: %v, not %v", what, got, want)
	}
}

// equalRows fails, unless two lists of lists are the same.
func equalRows(t *testing.T, what string, got, want [][]api.Step) {
	t.Helper()
	if !slices.EqualFunc(got, want, slices.Equal[[]api.Step]) {
		t.Errorf("%s: %v, not %v", what, got, want)
	}
}

// classesOf tells Classes of a system that is one.
func classesOf(t *testing.T, s api.System) []int {
	t.Helper()
	classes, err := branching.Classes(s)
	if err != nil {
		t.Fatal(s, err)
	}
	return classes
}

// bottomsOf tells Bottoms of a system and classes that are such.
func bottomsOf(t *testing.T, s api.System, classes []int) []bool {
	t.Helper()
	bottoms, err := branching.Bottoms(s, classes)
	if err != nil {
		t.Fatal(s, classes, err)
	}
	return bottoms
}

// stepsOf tells Steps of a system and classes that are such.
func stepsOf(t *testing.T, s api.System, classes []int) [][]api.Step {
	t.Helper()
	steps, err := branching.Steps(s, classes)
	if err != nil {
		t.Fatal(s, classes, err)
	}
	return steps
}

// steps makes a list of steps of numbers, two a step.
func steps(numbers ...int) []api.Step {
	var list []api.Step
	for two := range slices.Chunk(numbers, 2) {
		list = append(list, api.Step{Label: two[0], To: two[1]})
	}
	return list
}

// calls are the calls of the package, of which what they answer beside an error is told as a text. (Classes needs no classes.)
func calls() map[string]func(api.System, []int) (string, error) {
	return map[string]func(api.System, []int) (string, error){
		"Classes": func(s api.System, _ []int) (string, error) {
			classes, err := branching.Classes(s)
			return fmt.Sprint(classes), err
		},
		"Bottoms": func(s api.System, classes []int) (string, error) {
			bottoms, err := branching.Bottoms(s, classes)
			return fmt.Sprint(bottoms), err
		},
		"Steps": func(s api.System, classes []int) (string, error) {
			steps, err := branching.Steps(s, classes)
			return fmt.Sprint(steps), err
		},
	}
}

// handedOn fails, unless err is a fault of this layer around one of system, neither with a place, around ErrSystem.
func handedOn(t *testing.T, what string, err error) {
	t.Helper()
	outer, ok := err.(*api.Fault)
	if !ok || outer.Layer != "branching" || outer.Line != 0 || outer.Col != 0 {
		t.Errorf("%s: %#v, no fault of branching", what, err)
		return
	}
	inner, ok := outer.Err.(*api.Fault)
	if !ok || *inner != (api.Fault{Layer: "system", Err: api.ErrSystem}) {
		t.Errorf("%s: it wraps %#v, not system's ErrSystem", what, outer.Err)
	}
	if !errors.Is(err, api.ErrSystem) || api.Code(err) != 14 {
		t.Errorf("%s: %v is told as %d", what, err, api.Code(err))
	}
}

func TestSystemsThatAreNone(t *testing.T) {
	for name, call := range calls() {
		for what, s := range noSystems() {
			// The system is looked at first, whatever the classes are.
			for _, classes := range [][]int{nil, {0}, {0, 0}, {1, 0}, {5}, {least, greatest}} {
				told, err := call(s, classes)
				handedOn(t, name+": "+what, err)
				if told != "[]" {
					t.Errorf("%s: %s: %s beside an error", name, what, told)
				}
			}
		}
	}
}

func TestP1202ClassesThatAreNone(t *testing.T) {
	systems := map[int]api.System{0: {Labels: 1}, 1: {States: 1, Labels: 1, Edges: edges(0, 0, 0)}, 3: {States: 3, Labels: 2, Start: 2, Edges: edges(0, 0, 1, 1, 1, 2)}, 5: given()}
	for states, s := range systems {
		for _, classes := range [][]int{nil, {0}, {0, 0}, {1}, {-1}, {0, 0, 0}, {0, 1, 1}, {0, 2, 1}, {0, 0, 2}, {1, 0, 0}, {0, -1, 0}, {least, 0, 0}, {0, 0, greatest}, {0, 1, 2, 3}, {0, 1, 2, 3, 4}, {1, 0, 0, 0, 0}, {0, 1, 2, 4, 3}, {0, 0, 0, 0, 0, 0}} {
			isOne := len(classes) == states && slices.Equal(classes, oneForm(classes))
			for _, name := range []string{"Bottoms", "Steps"} {
				told, err := calls()[name](s, classes)
				f, is := err.(*api.Fault)
				switch {
				case isOne && err != nil:
					t.Errorf("%s of %d states, %v: %v", name, states, classes, err)
				case !isOne && (!is || *f != (api.Fault{Layer: "branching", Err: api.ErrClasses}) || api.Code(err) != 15):
					t.Errorf("%s of %d states, %v: %#v, not ErrClasses", name, states, classes, err)
				case !isOne && told != "[]":
					t.Errorf("%s of %d states, %v: %s beside an error", name, states, classes, told)
				}
			}
		}
	}
}

func TestFaultsAreNew(t *testing.T) {
	for name, call := range calls() {
		for _, s := range []api.System{{}, {States: 1, Labels: 1}} {
			_, first := call(s, nil)
			_, second := call(s, nil)
			if first == nil && name == "Classes" {
				continue
			}
			var f *api.Fault
			if first == second || !errors.As(first, &f) {
				t.Fatalf("%s: %v, then %v", name, first, second)
			}
			f.Err = api.ErrDeep
			if _, err := call(s, nil); errors.Is(err, api.ErrDeep) {
				t.Errorf("%s: a fault that was changed", name)
			}
		}
	}
}

func TestP1201Given(t *testing.T) {
	equal(t, "the example", classesOf(t, given()), []int{0, 0, 1, 2, 2})
	equal(t, "no state", classesOf(t, api.System{Labels: 1}), nil)
	equal(t, "no step", classesOf(t, api.System{States: 3, Labels: 2, Start: 2}), []int{0, 0, 0})
	// Where all is silent there is nothing to tell apart: a loop is as good as an end.
	equal(t, "all silent", classesOf(t, api.System{States: 4, Labels: 1, Edges: edges(0, 0, 1, 1, 0, 1, 3, 0, 2)}), []int{0, 0, 0, 0})
	equal(t, "a loop", classesOf(t, api.System{States: 2, Labels: 2, Edges: edges(0, 1, 0)}), []int{0, 1})
	equal(t, "loops", classesOf(t, api.System{States: 2, Labels: 2, Edges: edges(0, 1, 0, 1, 1, 0, 1, 0, 1)}), []int{0, 0})
	equal(t, "labels", classesOf(t, api.System{States: 4, Labels: 3, Edges: edges(0, 1, 3, 1, 2, 3, 2, 1, 3)}), []int{0, 1, 0, 2})
	// A silent step that gives something up is seen.
	equal(t, "given up", classesOf(t, api.System{States: 3, Labels: 3, Edges: edges(0, 1, 2, 0, 0, 1, 1, 2, 2)}), []int{0, 1, 2})
	// One that gives nothing up is not, whether all is asked again behind it or more.
	equal(t, "nothing given up", classesOf(t, api.System{States: 3, Labels: 3, Edges: edges(0, 1, 2, 0, 0, 1, 1, 1, 2, 1, 2, 2)}), []int{0, 0, 1})
	// States that can't be reached have classes, too.
	equal(t, "not reachable", classesOf(t, api.System{States: 4, Labels: 2, Start: 3, Edges: edges(0, 0, 1, 1, 1, 2)}), []int{0, 0, 1, 1})
}

func TestP1201NotWeak(t *testing.T) {
	// a.(tau.b + c) and a.(tau.b + c) + a.b: weakly bisimilar, but the second one gives c up unseen.
	s := api.System{States: 5, Labels: 4, Edges: edges(0, 1, 2, 1, 1, 2, 1, 1, 3, 2, 0, 3, 2, 3, 4, 3, 2, 4)}
	equal(t, "given up with a step", classesOf(t, s), []int{0, 1, 2, 3, 4})
	// tau.b + c and tau.b + b + c, likewise.
	s = api.System{States: 4, Labels: 3, Edges: edges(0, 0, 2, 0, 2, 3, 1, 0, 2, 1, 2, 3, 1, 1, 3, 2, 1, 3)}
	equal(t, "met behind a step that is seen", classesOf(t, s), []int{0, 1, 2, 3})
}

func TestP1201Cycles(t *testing.T) {
	// All states of a cycle can do what one of them can.
	s := api.System{States: 6, Labels: 3, Edges: edges(0, 0, 1, 1, 0, 2, 2, 0, 0, 1, 1, 5, 2, 2, 5, 3, 1, 5, 3, 2, 5, 4, 0, 0)}
	equal(t, "a cycle and one state", classesOf(t, s), []int{0, 0, 0, 0, 0, 1})
	s.Edges = append(s.Edges, edges(3, 0, 4, 4, 0, 5)...)
	equal(t, "a way out of one", classesOf(t, s), []int{0, 0, 0, 1, 2, 3})
	s.Edges = append(s.Edges, edges(0, 0, 5)...)
	equal(t, "a way out of both", classesOf(t, s), []int{0, 0, 0, 0, 0, 1})
}

func TestAsTheWordsHaveIt(t *testing.T) {
	for _, s := range several() {
		equal(t, fmt.Sprint(s), classesOf(t, s), bisimilar(s))
		if t.Failed() {
			return
		}
	}
}

func TestP1201AllOfThreeStates(t *testing.T) {
	for i, s := range small(3, 2) {
		// Each third one: all of them take long.
		if i%3 == 0 {
			equal(t, fmt.Sprint(s), classesOf(t, s), bisimilar(s))
		}
		if t.Failed() {
			return
		}
	}
}

func TestP1201Blown(t *testing.T) {
	x := &numbers{at: 77}
	for n := range 60 {
		s := x.system(2+x.below(9), 4, 24)
		states := 40 + 16*n
		big, old := x.blown(s, states)
		big, to := x.mixed(big)
		own := bisimilar(s)
		want := make([]int, states)
		for state, o := range old {
			want[to[state]] = own[o]
		}
		if got := classesOf(t, big); !slices.Equal(got, oneForm(want)) {
			t.Fatalf("%v, to %d states: %v", s, states, got)
		}
	}
}

func TestP1201AtTheLimits(t *testing.T) {
	x := &numbers{at: 3}
	systems, wanted := byShape()
	for i, s := range systems {
		if got := classesOf(t, s); !slices.Equal(got, wanted[i]) {
			t.Errorf("the shape %d: %v, not %v", i, got, wanted[i])
		}
		mixed, to := x.mixed(s)
		want := make([]int, s.States)
		for state, class := range wanted[i] {
			want[to[state]] = class
		}
		if got := classesOf(t, mixed); !slices.Equal(got, oneForm(want)) {
			t.Errorf("the shape %d, mixed: %v, not %v", i, got, oneForm(want))
		}
	}
	for i, s := range byChance() {
		got, want := classesOf(t, s), bySplitters(s)
		if !slices.Equal(got, want) {
			t.Errorf("the great system %d: %d classes, not %d", i, system.Together(got), system.Together(want))
		}
		// With few classes there are too many pairs to ask for.
		if system.Together(got) > 500 && !isBisimulation(s, got) {
			t.Errorf("the great system %d: no branching bisimulation", i)
		}
	}
}

func TestP1202Given(t *testing.T) {
	s, classes := given(), []int{0, 0, 1, 2, 2}
	equal(t, "the example: Bottoms", bottomsOf(t, s, classes), []bool{true, false, true, true, true})
	equalRows(t, "the example: Steps", stepsOf(t, s, classes), [][]api.Step{steps(1, 2), steps(1, 2), steps(0, 2, 1, 2), nil, nil})
	s = api.System{Labels: 3}
	equal(t, "no state: Bottoms", bottomsOf(t, s, nil), nil)
	equalRows(t, "no state: Steps", stepsOf(t, s, []int{}), nil)
	// A silent loop is a step within one class, whatever the classes are.
	s = api.System{States: 2, Labels: 2, Edges: edges(1, 0, 1, 0, 1, 0)}
	equal(t, "loops: Bottoms", bottomsOf(t, s, []int{0, 1}), []bool{true, false})
	equalRows(t, "loops: Steps", stepsOf(t, s, []int{0, 1}), [][]api.Step{steps(1, 0), nil})
	// A silent cycle through two classes is not inert, and a way back into the own class by it does not count.
	s = api.System{States: 4, Labels: 3, Edges: edges(0, 0, 1, 1, 0, 2, 2, 0, 0, 2, 2, 3, 1, 1, 3)}
	equal(t, "two classes: Bottoms", bottomsOf(t, s, []int{0, 1, 0, 0}), []bool{true, true, false, true})
	equalRows(t, "two classes: Steps", stepsOf(t, s, []int{0, 1, 0, 0}), [][]api.Step{steps(0, 1), steps(0, 0, 1, 0), steps(0, 1, 2, 0), nil})
	equalRows(t, "one class: Steps", stepsOf(t, s, []int{0, 0, 0, 0}), [][]api.Step{steps(1, 0, 2, 0), steps(1, 0, 2, 0), steps(1, 0, 2, 0), nil})
	// A step that is not silent is never inert, and counts once, behind however many ways.
	s = api.System{States: 4, Labels: 3, Edges: edges(3, 0, 1, 3, 0, 2, 1, 0, 0, 2, 0, 0, 0, 2, 0, 0, 2, 3, 1, 2, 3, 1, 1, 3, 1, 2, 3)}
	equalRows(t, "ways: Steps", stepsOf(t, s, []int{0, 0, 0, 0}), [][]api.Step{steps(2, 0), steps(1, 0, 2, 0), steps(2, 0), steps(1, 0, 2, 0)})
}

func TestP1202AllClasses(t *testing.T) {
	x := &numbers{at: 31}
	list := append(small(2, 2), small(3, 1)...)
	for range 1500 {
		list = append(list, x.system(3+x.below(3), 3, 14))
	}
	for _, s := range list {
		for _, classes := range partings(s.States) {
			what := fmt.Sprint(s, " by ", classes)
			equal(t, what+": Bottoms", bottomsOf(t, s, classes), bottomsBy(s, classes))
			equalRows(t, what+": Steps", stepsOf(t, s, classes), stepsBy(s, classes))
		}
		if t.Failed() {
			return
		}
	}
}

func TestP1202AtTheLimits(t *testing.T) {
	x := &numbers{at: 5}
	for i, s := range great() {
		list := [][]int{classesOf(t, s)}
		for _, many := range []int{1, 2, 7, 400} {
			list = append(list, x.classes(s.States, many))
		}
		for _, classes := range list {
			what := fmt.Sprint("the great system ", i, " by ", system.Together(classes), " classes")
			equal(t, what+": Bottoms", bottomsOf(t, s, classes), bottomsBy(s, classes))
			if got := stepsOf(t, s, classes); !slices.EqualFunc(got, stepsBy(s, classes), slices.Equal[[]api.Step]) {
				t.Errorf("%s: Steps", what)
			}
		}
	}
	// As much as can be told: half of the states are one silent chain to one that has all other steps.
	s := chain(500, 0)
	s.States, s.Labels = 1000, api.MaxLabels
	classes := make([]int, 1000)
	for i := 500; i < 1000; i++ {
		classes[i] = i - 499
	}
	for i := range api.MaxEdges - len(s.Edges) {
		s.Edges = append(s.Edges, api.Edge{From: 499, Label: 1 + i%200, To: 500 + i/200})
	}
	for state, list := range stepsOf(t, s, classes)[:500] {
		if len(list) != 9501 {
			t.Fatalf("a chain: %d steps of %d", len(list), state)
		}
		for i, step := range list[1:] {
			if before := list[i]; before.Label > step.Label || before.Label == step.Label && before.To >= step.To {
				t.Fatalf("a chain: %v ahead of %v", before, step)
			}
		}
	}
}

// sameJustIfTogether tells whether two states are together just if their steps by the classes are the same.
func sameJustIfTogether(steps [][]api.Step, classes []int) bool {
	for p := range classes {
		for q := range p {
			if (classes[p] == classes[q]) != slices.Equal(steps[p], steps[q]) {
				return false
			}
		}
	}
	return true
}

func TestP1203Steps(t *testing.T) {
	x := &numbers{at: 12}
	list := append(small(2, 2), small(3, 1)...)
	for range 600 {
		list = append(list, x.system(3+x.below(3), 3, 14))
	}
	for _, s := range list {
		classes := classesOf(t, s)
		for _, other := range partings(s.States) {
			has := sameJustIfTogether(stepsOf(t, s, other), other)
			if slices.Equal(other, classes) && !has {
				t.Fatalf("%v: %v: together are not just those with the same steps", s, classes)
			}
			if has && !isFiner(other, classes) {
				t.Fatalf("%v: %v, and %v have it, too", s, classes, other)
			}
		}
	}
	for i, s := range great() {
		classes := classesOf(t, s)
		if !sameJustIfTogether(stepsOf(t, s, classes), classes) {
			t.Fatalf("the great system %d: together are not just those with the same steps", i)
		}
	}
}

func TestP1203Strong(t *testing.T) {
	for i, s := range append(several(), great()...) {
		fine, err := strong.Classes(s)
		if err != nil || !isFiner(fine, classesOf(t, s)) {
			t.Fatalf("the system %d: %v, or strongly bisimilar states that are not together", i, err)
		}
	}
	// Without a silent step both are the same.
	x := &numbers{at: 2}
	for range 300 {
		s := x.system(1+x.below(20), 3, 60)
		s.Edges = slices.DeleteFunc(s.Edges, isSilent)
		fine, _ := strong.Classes(s)
		equal(t, fmt.Sprint(s), classesOf(t, s), fine)
	}
}

func TestP1203Collapsed(t *testing.T) {
	for i, s := range append(several(), great()...) {
		c, cycles, err := tauscc.Collapse(s)
		if err != nil {
			t.Fatal(i, err)
		}
		own := classesOf(t, c)
		for state, class := range classesOf(t, s) {
			if class != own[cycles[state]] {
				t.Fatalf("the system %d: %d is in the class %d, its cycle in %d", i, state, class, own[cycles[state]])
			}
		}
	}
}

// together tells whether two terms, over the definitions P, Q and R, are branching bisimilar.
func together(t *testing.T, a, b string) bool {
	t.Helper()
	program, err := source.Parse("P = a.P + tau.b.Q\nQ = c.0 + tau.R\nR = (b.P | 'b.0)\\{b}\n")
	if err != nil {
		t.Fatal(err)
	}
	id, err := program.Term("first.(" + a + ") + second.(" + b + ")")
	if err != nil {
		t.Fatal(a, b, err)
	}
	space, err := generate.From(program, id)
	if err != nil {
		t.Fatal(a, b, err)
	}
	s := space.System()
	var ends []int
	for _, e := range s.Edges {
		if e.From == s.Start {
			ends = append(ends, e.To)
		}
	}
	classes := classesOf(t, s)
	return classes[ends[0]] == classes[ends[1]]
}

func TestLawsOfTheSilentAction(t *testing.T) {
	terms := []string{"0", "a.0", "tau.a.0", "(b.0 + tau.c.0)", "P", "Q", "R", "(P | a.0)", "(P | R)\\{a}", "Q[a/c]"}
	for _, p := range terms {
		if !together(t, "a.tau."+p, "a."+p) || !together(t, "tau."+p, p) {
			t.Errorf("a silent step ahead of %s", p)
		}
		for _, q := range terms {
			if !together(t, "d.(tau.("+p+" + "+q+") + "+p+")", "d.("+p+" + "+q+")") {
				t.Errorf("a silent step that gives nothing up: %s, %s", p, q)
			}
			if !together(t, p+" + "+q, q+" + "+p) || !together(t, "tau."+p+" | "+q, p+" | "+q) {
				t.Errorf("a choice, a parallel composition: %s, %s", p, q)
			}
		}
	}
	if together(t, "tau.a.0 + b.0", "a.0 + b.0") || together(t, "d.(a.0 + tau.b.0)", "d.(a.0 + tau.b.0) + d.b.0") || together(t, "a.0", "0") {
		t.Error("a law that is none")
	}
}

func TestTheOrderOfEdges(t *testing.T) {
	x := &numbers{at: 4}
	for range 200 {
		s := x.system(2+x.below(10), 3, 30)
		classes := x.classes(s.States, 3)
		turned := s
		turned.Edges = slices.Clone(s.Edges)
		slices.Reverse(turned.Edges)
		turned.Edges = append(turned.Edges, s.Edges...)
		// The start does not matter, either.
		turned.Start = s.States - 1 - s.Start
		for name, call := range calls() {
			want, _ := call(s, classes)
			if got, _ := call(turned, classes); got != want {
				t.Errorf("%s of %v by %v: %s, turned %s", name, s, classes, want, got)
			}
		}
	}
}

// spoil writes over a list, and behind it.
func spoil[T any](list []T, with T) {
	for i := range list {
		list[i] = with
	}
	_ = append(list, with, with, with)
}

func TestAnswersAreNew(t *testing.T) {
	s, _ := (&numbers{at: 8}).blown(ring(6), 30)
	room := append(slices.Clone(s.Edges), api.Edge{From: 77})
	slices.Reverse(room[:len(room)-1])
	before := slices.Clone(room)
	s.Edges = room[:len(room)-1]
	classes := append(classesOf(t, s), 88)
	kept := slices.Clone(classes)
	classes = classes[:30]
	told := func() string {
		all := ""
		for _, name := range []string{"Classes", "Bottoms", "Steps"} {
			answer, _ := calls()[name](s, classes)
			all += answer
		}
		return all
	}
	want := told()
	spoil(classesOf(t, s), -7)
	spoil(bottomsOf(t, s, classes), false)
	rows := stepsOf(t, s, classes)
	for i := range rows {
		// Of states of one class each has a list of its own, and nothing stands behind it.
		rest := fmt.Sprint(rows[i+1:])
		spoil(rows[i], api.Step{Label: -7, To: -7})
		if got := fmt.Sprint(rows[i+1:]); got != rest {
			t.Fatalf("behind %d: %s, not %s", i, got, rest)
		}
	}
	if got := told(); got != want {
		t.Errorf("twice: %s, not %s", got, want)
	}
	equal(t, "the edges that were handed in", room, before)
	equal(t, "the classes that were handed in", classes[:31], kept)
}
