package quotient_test

import (
	"errors"
	"fmt"
	"slices"
	"testing"

	"semblance/api"
	"semblance/branching"
	"semblance/generate"
	"semblance/quotient"
	"semblance/source"
	"semblance/strong"
	"semblance/system"
)

// equal fails, unless two lists are the same; nil and empty are one.
func equal[T comparable](t *testing.T, what string, got, want []T) {
	t.Helper()
	if !slices.Equal(got, want) {
		t.Errorf("%s: %v, not %v", what, got, want)
	}
}

// alike fails, unless two systems are the same, edge by edge.
func alike(t *testing.T, what string, got, want api.System) {
	t.Helper()
	if got.States != want.States || got.Labels != want.Labels || got.Start != want.Start || !slices.Equal(got.Edges, want.Edges) {
		t.Errorf("%s: %v, not %v", what, got, want)
	}
}

// kind is one of the two quotients, and what it goes by.
type kind struct {
	name    string
	by      func(api.System) (api.System, []int, error)
	classes func(api.System) ([]int, error)
	met     meets
	inert   bool
}

// kinds are the two of them.
func kinds() []kind {
	return []kind{
		{"Strong", quotient.Strong, strong.Classes, (*related).strongly, false},
		{"Branching", quotient.Branching, branching.Classes, (*related).branchingly, true},
	}
}

// quotientOf tells the quotient of a system that is one.
func (k kind) quotientOf(t *testing.T, s api.System) (api.System, []int) {
	t.Helper()
	q, to, err := k.by(s)
	if err != nil {
		t.Fatal(k.name, s, err)
	}
	return q, to
}

// ofOf tells Of, of a system and classes that are such.
func ofOf(t *testing.T, s api.System, classes []int, inert bool) (api.System, []int) {
	t.Helper()
	q, to, err := quotient.Of(s, classes, inert)
	if err != nil {
		t.Fatal(s, classes, err)
	}
	return q, to
}

// unionOf tells Union of two systems that may be joined.
func unionOf(t *testing.T, s, other api.System) (api.System, int) {
	t.Helper()
	u, moved, err := quotient.Union(s, other)
	if err != nil {
		t.Fatal(s, other, err)
	}
	return u, moved
}

// sameOf tells Same of two systems that may be compared.
func sameOf(t *testing.T, s, other api.System) bool {
	t.Helper()
	same, err := quotient.Same(s, other)
	if err != nil {
		t.Fatal(s, other, err)
	}
	return same
}

// isFault fails, unless err is a chain of faults of these layers, none with a place, down to one of api's errors.
func isFault(t *testing.T, what string, err, end error, layers ...string) {
	t.Helper()
	at := err
	for _, layer := range layers {
		f, ok := at.(*api.Fault)
		if !ok || f.Layer != layer || f.Line != 0 || f.Col != 0 {
			t.Errorf("%s: %#v, no fault of %s", what, at, layer)
			return
		}
		at = f.Err
	}
	if at != end || !errors.Is(err, end) || api.Code(err) != api.Code(end) {
		t.Errorf("%s: %v, not %v", what, err, end)
	}
}

// call is a call of the package on a system, of which what it answers beside an error is told as a text.
type call func(api.System) (string, error)

// zeroes are what they are to tell beside an error.
func zeroes() map[string]string {
	return map[string]string{"Of": "{0 0 0 []} []", "Strong": "{0 0 0 []} []", "Branching": "{0 0 0 []} []", "Union": "{0 0 0 []} 0", "Same": "false"}
}

// calls are the calls, with what else they need.
func calls(classes []int, other api.System) map[string]call {
	return map[string]call{
		"Of": func(s api.System) (string, error) {
			q, to, err := quotient.Of(s, classes, len(classes)%2 == 0)
			return fmt.Sprint(q, to), err
		},
		"Strong": func(s api.System) (string, error) {
			q, to, err := quotient.Strong(s)
			return fmt.Sprint(q, to), err
		},
		"Branching": func(s api.System) (string, error) {
			q, to, err := quotient.Branching(s)
			return fmt.Sprint(q, to), err
		},
		"Union": func(s api.System) (string, error) {
			u, moved, err := quotient.Union(s, other)
			return fmt.Sprint(u, moved), err
		},
		"Same": func(s api.System) (string, error) {
			same, err := quotient.Same(s, other)
			return fmt.Sprint(same), err
		},
	}
}

func TestSystemsThatAreNone(t *testing.T) {
	for what, s := range noSystems() {
		// The system is looked at first, whatever the classes are, and whatever the other system is.
		for _, classes := range [][]int{nil, {0}, {0, 0}, {1, 0}, {5}, {least, greatest}} {
			for _, other := range []api.System{given(2), {Labels: 1}, {}, {States: greatest, Labels: 1}, {States: api.MaxStates, Labels: 1}} {
				for name, call := range calls(classes, other) {
					told, err := call(s)
					isFault(t, name+": "+what, err, api.ErrSystem, "quotient", "system")
					if told != zeroes()[name] {
						t.Errorf("%s: %s: %s beside an error", name, what, told)
					}
				}
			}
		}
		for _, first := range []api.System{given(2), {Labels: 1}, {States: api.MaxStates, Labels: 1}} {
			for _, name := range []string{"Union", "Same"} {
				told, err := calls(nil, s)[name](first)
				isFault(t, name+", the second one: "+what, err, api.ErrSystem, "quotient", "system")
				if told != zeroes()[name] {
					t.Errorf("%s, the second one: %s: %s beside an error", name, what, told)
				}
			}
		}
	}
}

func TestFaultsAreNew(t *testing.T) {
	big := api.System{States: 600, Labels: 1}
	for _, s := range []api.System{{}, {Labels: 1}, big} {
		// Each call that answers an error answers another one the next time.
		for name, call := range calls([]int{5}, big) {
			_, first := call(s)
			_, second := call(s)
			if first == nil {
				continue
			}
			var f *api.Fault
			if first == second || !errors.As(first, &f) {
				t.Fatalf("%s: %v, then %v", name, first, second)
			}
			f.Err = api.ErrDeep
			if _, err := call(s); errors.Is(err, api.ErrDeep) {
				t.Errorf("%s: a fault that was changed", name)
			}
		}
	}
}

func TestP1401ClassesThatAreNone(t *testing.T) {
	systems := map[int]api.System{0: {Labels: 1}, 1: {States: 1, Labels: 1, Edges: edges(0, 0, 0)}, 3: {States: 3, Labels: 2, Start: 2, Edges: edges(0, 0, 1, 1, 1, 2)}, 5: given(2)}
	for states, s := range systems {
		for _, classes := range [][]int{nil, {0}, {0, 0}, {1}, {-1}, {0, 0, 0}, {0, 1, 1}, {0, 2, 1}, {0, 0, 2}, {1, 0, 0}, {0, -1, 0}, {least, 0, 0}, {0, 0, greatest}, {0, 1, 2, 3}, {0, 1, 2, 3, 4}, {1, 0, 0, 0, 0}, {0, 1, 2, 4, 3}, {0, 0, 0, 0, 0, 0}} {
			isOne := len(classes) == states && slices.Equal(classes, oneForm(classes))
			for _, inert := range []bool{false, true} {
				q, to, err := quotient.Of(s, classes, inert)
				what := fmt.Sprint(states, " states, ", classes)
				if isOne {
					if err != nil {
						t.Errorf("%s: %v", what, err)
					}
					continue
				}
				isFault(t, what, err, api.ErrClasses, "quotient")
				alike(t, what+": beside an error", q, api.System{})
				equal(t, what+": beside an error", to, nil)
			}
		}
	}
}

func TestP1401Given(t *testing.T) {
	one := make([]int, 5)
	q, to := ofOf(t, given(2), one, true)
	alike(t, "the example", q, api.System{States: 1, Labels: 2, Edges: edges(0, 1, 0)})
	equal(t, "the example", to, one)
	q, _ = ofOf(t, given(2), one, false)
	alike(t, "not inert", q, api.System{States: 1, Labels: 2, Edges: edges(0, 0, 0, 0, 1, 0)})
	for _, inert := range []bool{false, true} {
		q, to = ofOf(t, api.System{Labels: 9}, nil, inert)
		alike(t, "no state", q, api.System{Labels: 9})
		equal(t, "no state", to, nil)
	}
	// A silent loop is within one class, whatever the classes are; one with another label stays.
	loops := api.System{States: 2, Labels: 2, Start: 1, Edges: edges(1, 0, 1, 1, 1, 1, 0, 0, 0, 1, 0, 0)}
	q, to = ofOf(t, loops, []int{0, 1}, true)
	alike(t, "loops, inert", q, api.System{States: 2, Labels: 2, Start: 1, Edges: edges(1, 0, 0, 1, 1, 1)})
	equal(t, "loops, inert", to, []int{0, 1})
	q, _ = ofOf(t, loops, []int{0, 1}, false)
	alike(t, "loops", q, api.System{States: 2, Labels: 2, Start: 1, Edges: edges(0, 0, 0, 1, 0, 0, 1, 0, 1, 1, 1, 1)})
}

func TestP1401Unreachable(t *testing.T) {
	// The classes of 0 and 1 come first, but their least reachable states do not.
	s := api.System{States: 6, Labels: 3, Start: 5, Edges: edges(5, 2, 4, 4, 1, 2, 0, 2, 3, 1, 1, 3, 4, 0, 5, 3, 1, 1)}
	q, to := ofOf(t, s, []int{0, 1, 2, 3, 1, 0}, true)
	// 2 is the least reachable one, then 4, then 5. What 0, 1 and 3 do is not seen, though 0 and 1 are in classes that are; 3 is in none.
	alike(t, "by the least reachable ones", q, api.System{States: 3, Labels: 3, Start: 2, Edges: edges(1, 0, 2, 1, 1, 0, 2, 2, 1)})
	equal(t, "by the least reachable ones", to, []int{2, 1, 0, -1, 1, 2})
	q, to = ofOf(t, api.System{States: 4, Labels: 2, Start: 2, Edges: edges(0, 1, 1, 3, 0, 2)}, []int{0, 1, 2, 2}, false)
	alike(t, "the start alone", q, api.System{States: 1, Labels: 2})
	equal(t, "the start alone", to, []int{-1, -1, 0, 0})
}

func TestP1401Edges(t *testing.T) {
	// Of edges that are one between the classes one stays; they rise, whatever their order was.
	s := api.System{States: 5, Labels: 3, Start: 4, Edges: edges(4, 2, 1, 1, 2, 4, 4, 0, 1, 1, 0, 4, 4, 0, 3, 1, 0, 3, 1, 1, 1, 4, 1, 1, 0, 0, 4, 0, 0, 1, 3, 0, 2, 2, 0, 3, 2, 1, 0, 3, 1, 0, 3, 0, 3, 4, 2, 1)}
	classes := []int{0, 1, 2, 2, 1}
	q, to := ofOf(t, s, classes, true)
	alike(t, "inert", q, api.System{States: 3, Labels: 3, Start: 1, Edges: edges(0, 0, 1, 1, 0, 2, 1, 1, 1, 1, 2, 1, 2, 1, 0)})
	equal(t, "inert", to, classes)
	q, _ = ofOf(t, s, classes, false)
	alike(t, "not inert", q, api.System{States: 3, Labels: 3, Start: 1, Edges: edges(0, 0, 1, 1, 0, 1, 1, 0, 2, 1, 1, 1, 1, 2, 1, 2, 0, 2, 2, 1, 0)})
}

func TestP1401AllClasses(t *testing.T) {
	x := &numbers{at: 31}
	list := append(small(2, 2), small(3, 1)...)
	for range 1500 {
		list = append(list, x.system(3+x.below(3), 3, 10))
	}
	unreached := 0
	for _, s := range list {
		for _, classes := range partings(s.States) {
			for _, inert := range []bool{false, true} {
				what := fmt.Sprint(s, " by ", classes, inert)
				q, to := ofOf(t, s, classes, inert)
				want, wanted := quotientBy(s, classes, inert)
				alike(t, what, q, want)
				equal(t, what, to, wanted)
				if slices.Contains(to, -1) {
					unreached++
				}
			}
		}
		if t.Failed() {
			return
		}
	}
	if unreached < 1000 {
		t.Errorf("%d times a class was not reached", unreached)
	}
}

func TestP1401AtTheLimits(t *testing.T) {
	x := &numbers{at: 5}
	for i, s := range great(api.MaxStates) {
		list := [][]int{upTo(s.States)}
		for _, many := range []int{1, 2, 7, 400, 5000} {
			list = append(list, x.classes(s.States, many))
		}
		for _, classes := range list {
			for _, inert := range []bool{false, true} {
				what := fmt.Sprint("the great system ", i, " by ", system.Together(classes), " classes")
				q, to := ofOf(t, s, classes, inert)
				want, wanted := quotientBy(s, classes, inert)
				alike(t, what, q, want)
				equal(t, what, to, wanted)
			}
		}
	}
	// As many edges as may be, of one state; each of them stays.
	s := api.System{States: 100, Labels: 100, Start: 99}
	for i := range api.MaxEdges {
		s.Edges = append(s.Edges, api.Edge{From: 99, Label: i % 100, To: i / 100})
	}
	slices.Reverse(s.Edges)
	q, _ := ofOf(t, s, upTo(100), false)
	normal, _ := system.Normal(s)
	alike(t, "each edge", q, normal)
	q, _ = ofOf(t, s, upTo(100), true)
	alike(t, "each edge but one", q, api.System{States: 100, Labels: 100, Start: 99, Edges: slices.Delete(slices.Clone(normal.Edges), 99, 100)})
}

func TestP1402Given(t *testing.T) {
	for _, k := range kinds() {
		q, to := k.quotientOf(t, given(2))
		alike(t, k.name+": the example", q, api.System{States: 2, Labels: 2, Edges: edges(0, 0, 1, 0, 1, 1)})
		equal(t, k.name+": the example", to, []int{-1, -1, 0, 1, 1})
		q, to = k.quotientOf(t, api.System{Labels: 7})
		alike(t, k.name+": no state", q, api.System{Labels: 7})
		equal(t, k.name+": no state", to, nil)
	}
	q, to, _ := quotient.Strong(given(1))
	alike(t, "Strong from 1", q, api.System{States: 3, Labels: 2, Start: 1, Edges: edges(0, 1, 2, 1, 0, 0)})
	equal(t, "Strong from 1", to, []int{0, 1, -1, 2, 2})
	q, to, _ = quotient.Branching(given(1))
	alike(t, "Branching from 1", q, api.System{States: 2, Labels: 2, Edges: edges(0, 1, 1)})
	equal(t, "Branching from 1", to, []int{0, 0, -1, 1, 1})
	// A silent ring is one state: with a loop, if it counts.
	q, _, _ = quotient.Strong(ring(5, 0))
	alike(t, "Strong of a ring", q, api.System{States: 1, Labels: 2, Edges: edges(0, 0, 0)})
	q, _, _ = quotient.Branching(ring(5, 0))
	alike(t, "Branching of a ring", q, api.System{States: 1, Labels: 2})
	q, _, _ = quotient.Branching(ring(5, 1))
	alike(t, "Branching of a ring that is not silent", q, api.System{States: 1, Labels: 2, Edges: edges(0, 1, 0)})
}

func TestP1402AsTheWordsHaveIt(t *testing.T) {
	for _, k := range kinds() {
		for _, s := range several() {
			what := fmt.Sprint(k.name, " of ", s)
			q, to := k.quotientOf(t, s)
			want, wanted := quotientBy(s, classesBy(bisimilar(s, k.met)), k.inert)
			alike(t, what, q, want)
			equal(t, what, to, wanted)
			if t.Failed() {
				return
			}
		}
	}
}

func TestP1402AtTheLimits(t *testing.T) {
	for _, k := range kinds() {
		for i, s := range great(api.MaxStates) {
			what := fmt.Sprint(k.name, " of the great system ", i)
			q, to := k.quotientOf(t, s)
			classes, err := k.classes(s)
			if err != nil {
				t.Fatal(what, err)
			}
			want, wanted := quotientBy(s, classes, k.inert)
			alike(t, what, q, want)
			equal(t, what, to, wanted)
		}
	}
}

func TestP1403Given(t *testing.T) {
	one, none := api.System{States: 1, Labels: 3, Edges: edges(0, 2, 0)}, api.System{Labels: 4}
	u, moved := unionOf(t, one, given(1))
	alike(t, "one and five", u, api.System{States: 6, Labels: 3, Edges: edges(0, 2, 0, 1, 1, 5, 2, 0, 1, 3, 0, 4, 3, 1, 5)})
	if moved != 1 {
		t.Errorf("one and five: moved by %d", moved)
	}
	u, moved = unionOf(t, given(3), one)
	alike(t, "five and one", u, api.System{States: 6, Labels: 3, Start: 3, Edges: edges(0, 1, 4, 1, 0, 0, 2, 0, 3, 2, 1, 4, 5, 2, 5)})
	if moved != 5 {
		t.Errorf("five and one: moved by %d", moved)
	}
	u, moved = unionOf(t, none, given(3))
	alike(t, "none and five", u, api.System{States: 5, Labels: 4, Start: 3, Edges: given(3).Edges})
	if moved != 0 {
		t.Errorf("none and five: moved by %d", moved)
	}
	u, moved = unionOf(t, given(3), none)
	alike(t, "five and none", u, api.System{States: 5, Labels: 4, Start: 3, Edges: given(3).Edges})
	if moved != 5 {
		t.Errorf("five and none: moved by %d", moved)
	}
	u, moved = unionOf(t, api.System{Labels: 1}, none)
	alike(t, "none and none", u, none)
	if moved != 0 {
		t.Errorf("none and none: moved by %d", moved)
	}
	// Edges stay as they stand: in their order, and as often.
	turned := api.System{States: 2, Labels: 1, Start: 1, Edges: edges(1, 0, 0, 0, 0, 1, 1, 0, 0)}
	u, _ = unionOf(t, turned, turned)
	alike(t, "as they stand", u, api.System{States: 4, Labels: 1, Start: 1, Edges: edges(1, 0, 0, 0, 0, 1, 1, 0, 0, 3, 0, 2, 2, 0, 3, 3, 0, 2)})
}

func TestP1403Several(t *testing.T) {
	x := &numbers{at: 6}
	list := several()
	for range 5000 {
		s, other := list[x.below(len(list))], list[x.below(len(list))]
		what := fmt.Sprint(s, " and ", other)
		u, moved := unionOf(t, s, other)
		alike(t, what, u, unionBy(s, other))
		if moved != s.States || system.Check(u) != nil {
			t.Errorf("%s: moved by %d: %v", what, moved, u)
		}
		if t.Failed() {
			return
		}
	}
}

func TestP1403Limits(t *testing.T) {
	of := func(states, many int) api.System {
		return api.System{States: states, Labels: 1, Edges: make([]api.Edge, many)}
	}
	for _, states := range []int{1, 2, 500, 999, 1000} {
		for _, more := range []int{0, 1, 2, 500, 501, 1000} {
			for _, many := range []int{0, 1, 5000, 9999, 10000} {
				for _, others := range []int{0, 1, 2, 5000, 5001, 10000} {
					if more == 0 {
						others = 0
					}
					s, other := of(states, many), of(more, others)
					what := fmt.Sprint(states, " and ", more, " states, ", many, " and ", others, " edges")
					u, moved, err := quotient.Union(s, other)
					same, sameErr := quotient.Same(s, other)
					switch {
					case states+more > 1000 || many+others > 10000:
						isFault(t, what, err, api.ErrSystem, "quotient")
						isFault(t, what+": Same", sameErr, api.ErrSystem, "quotient")
						alike(t, what+": beside an error", u, api.System{})
						if moved != 0 || same {
							t.Errorf("%s: %d and %v beside errors", what, moved, same)
						}
					case err != nil || moved != states || u.States != states+more || len(u.Edges) != many+others:
						t.Errorf("%s: %d states, %d edges, moved by %d, %v", what, u.States, len(u.Edges), moved, err)
					}
				}
			}
		}
	}
	// Beside a system without a state there is room for all.
	if _, _, err := quotient.Union(api.System{Labels: 1}, of(1000, 10000)); err != nil {
		t.Error("none and all:", err)
	}
	// Edges that stand twice count as often as they stand.
	_, _, err := quotient.Union(of(1, 10000), of(1, 1))
	isFault(t, "an edge too many, that stands there already", err, api.ErrSystem, "quotient")
}

func TestP1404Given(t *testing.T) {
	if sameOf(t, given(2), given(1)) || !sameOf(t, given(2), given(2)) || !sameOf(t, given(3), given(4)) {
		t.Error("the examples")
	}
	// Silent steps count as any other ones, and other labels are other steps.
	if sameOf(t, given(1), given(0)) || !sameOf(t, ring(3, 1), ring(5, 1)) || sameOf(t, ring(3, 1), ring(3, 0)) || sameOf(t, chain(3, 1), chain(4, 1)) {
		t.Error("rings and chains")
	}
	// How many labels there are does not matter, nor what can't be reached.
	if !sameOf(t, api.System{States: 1, Labels: 1}, api.System{States: 3, Labels: api.MaxLabels, Start: 2, Edges: edges(0, 200, 2, 1, 3, 1)}) {
		t.Error("two that do nothing")
	}
}

func TestP1404NoState(t *testing.T) {
	none := api.System{Labels: 1}
	for _, two := range [][2]api.System{{none, none}, {none, given(2)}, {given(2), none}, {{Labels: 201}, chain(1000, 1)}, {chain(1000, 1), {Labels: 201}}} {
		same, err := quotient.Same(two[0], two[1])
		isFault(t, fmt.Sprint(two[0].States, " and ", two[1].States, " states"), err, api.ErrIndex, "quotient")
		if same {
			t.Error("true beside an error")
		}
	}
	// That a system is none comes first.
	_, err := quotient.Same(none, api.System{})
	isFault(t, "none and no system", err, api.ErrSystem, "quotient", "system")
}

func TestP1404AsTheWordsHaveIt(t *testing.T) {
	x := &numbers{at: 60}
	var are, not int
	for range 3000 {
		s, other := x.system(1+x.below(5), 2, 7), x.system(1+x.below(5), 3, 7)
		if x.below(4) == 0 {
			other = x.mixed(x.copied(s, s.States+x.below(4)))
		}
		u := unionBy(s, other)
		want := bisimilar(u, (*related).strongly)[s.Start][s.States+other.Start]
		if got := sameOf(t, s, other); got != want {
			t.Fatalf("%v and %v: %v", s, other, got)
		}
		if back := sameOf(t, other, s); back != want {
			t.Fatalf("%v and %v: %v", other, s, back)
		}
		if want {
			are++
		} else {
			not++
		}
	}
	if are < 500 || not < 500 {
		t.Errorf("%d are the same, %d are not", are, not)
	}
}

func TestP1404AtTheLimits(t *testing.T) {
	x := &numbers{at: 61}
	for i, s := range great(api.MaxStates / 2) {
		other := x.mixed(s)
		if !sameOf(t, s, other) {
			t.Errorf("the great system %d, mixed", i)
		}
	}
	if !sameOf(t, ring(499, 1), ring(501, 1)) || !sameOf(t, ring(1, 0), ring(999, 0)) || sameOf(t, chain(499, 1), chain(501, 1)) || !sameOf(t, chain(500, 1), chain(500, 1)) {
		t.Error("rings and chains")
	}
}

// isLeast fails, unless a quotient has no two states that are together by the classes of the union behind moved, and each state of the system is together with its own.
func isLeast(t *testing.T, what string, to []int, moved int, classes []int) {
	t.Helper()
	for state, end := range to {
		if end >= 0 && classes[state] != classes[moved+end] {
			t.Errorf("%s: %d is not bisimilar to its state %d", what, state, end)
		}
	}
	if own := classes[moved:]; system.Together(own) != len(own) {
		t.Errorf("%s: two states that are bisimilar: %v", what, own)
	}
}

// isItself fails, unless all states of a quotient are reachable and its quotient is itself: the order stays, too, as each state is the least of its class.
func isItself(t *testing.T, what string, k kind, q api.System) {
	t.Helper()
	if slices.Contains(reachable(q), false) {
		t.Errorf("%s: not all of %v is reachable", what, q)
	}
	again, to := k.quotientOf(t, q)
	alike(t, what+", twice", again, q)
	equal(t, what+", twice", to, upTo(q.States))
}

func TestP1405Several(t *testing.T) {
	for _, k := range kinds() {
		for _, s := range several() {
			what := fmt.Sprint(k.name, " of ", s)
			q, to := k.quotientOf(t, s)
			u, moved := unionOf(t, s, q)
			isLeast(t, what, to, moved, classesBy(bisimilar(u, k.met)))
			isItself(t, what, k, q)
			is := reachable(s)
			for state, end := range to {
				if is[state] && end < 0 {
					t.Errorf("%s: %d is reachable and has no state", what, state)
				}
			}
			if t.Failed() {
				return
			}
		}
	}
}

func TestP1405AtTheLimits(t *testing.T) {
	for _, k := range kinds() {
		for i, s := range great(api.MaxStates / 2) {
			what := fmt.Sprint(k.name, " of the great system ", i)
			q, to := k.quotientOf(t, s)
			u, moved := unionOf(t, s, q)
			classes, err := k.classes(u)
			if err != nil {
				t.Fatal(what, err)
			}
			isLeast(t, what, to, moved, classes)
			isItself(t, what, k, q)
		}
		for i, s := range great(api.MaxStates) {
			q, _ := k.quotientOf(t, s)
			isItself(t, fmt.Sprint(k.name, " of the greatest system ", i), k, q)
		}
	}
	// The strong quotient is the same by Same, too.
	for i, s := range great(api.MaxStates / 2) {
		if q, _, _ := quotient.Strong(s); !sameOf(t, s, q) {
			t.Errorf("the great system %d and its quotient", i)
		}
	}
}

func TestP1405Coarser(t *testing.T) {
	// Of systems with the same behaviour the quotients have as many states and edges, the branching one at most as many as the strong one.
	x := &numbers{at: 14}
	for range 200 {
		s := x.system(1+x.below(8), 3, 20)
		for _, k := range kinds() {
			q, _ := k.quotientOf(t, s)
			other, _ := k.quotientOf(t, x.mixed(x.copied(s, 30)))
			if q.States != other.States || len(q.Edges) != len(other.Edges) {
				t.Fatalf("%s of %v: %v, of a copy %v", k.name, s, q, other)
			}
		}
		fine, _, _ := quotient.Strong(s)
		coarse, _, _ := quotient.Branching(s)
		twice, _, _ := quotient.Branching(fine)
		if coarse.States > fine.States || coarse.States != twice.States || len(coarse.Edges) != len(twice.Edges) {
			t.Fatalf("%v: %v, %v, one by the other %v", s, fine, coarse, twice)
		}
	}
}

// systemOf tells the system of a term over some definitions.
func systemOf(t *testing.T, text string) api.System {
	t.Helper()
	program, err := source.Parse("A = a.A + b.0\nP = a.P\nQ = a.a.Q\nR = a.R + tau.R\nB = in.'out.B\nC = (B[mid/out] | B[mid/in])\\{mid}\nD = in.E\nE = 'out.D + in.F\nF = 'out.E\n")
	if err != nil {
		t.Fatal(err)
	}
	id, err := program.Term(text)
	if err != nil {
		t.Fatal(text, err)
	}
	space, err := generate.From(program, id)
	if err != nil {
		t.Fatal(text, err)
	}
	return space.System()
}

func TestW8Laws(t *testing.T) {
	terms := []string{"0", "a.0", "tau.a.0", "(b.0 + tau.c.0)", "A", "P", "Q", "(R | a.0)", "C\\{in}"}
	for _, p := range terms {
		for law, two := range map[string][2]string{"0 in a choice": {p + " + 0", p}, "0 beside": {p + " | 0", p}, "a choice of one": {p + " + " + p, p}} {
			if !sameOf(t, systemOf(t, two[0]), systemOf(t, two[1])) {
				t.Errorf("%s: %s", law, p)
			}
		}
		for _, q := range terms {
			if !sameOf(t, systemOf(t, p+" + "+q), systemOf(t, q+" + "+p)) || !sameOf(t, systemOf(t, p+" | "+q), systemOf(t, q+" | "+p)) {
				t.Errorf("the order of %s and %s", p, q)
			}
		}
	}
	if !sameOf(t, systemOf(t, "P"), systemOf(t, "Q")) || sameOf(t, systemOf(t, "P"), systemOf(t, "R")) || sameOf(t, systemOf(t, "tau.P"), systemOf(t, "P")) {
		t.Error("P, Q and R")
	}
}

func TestABufferOfTwo(t *testing.T) {
	// Two buffers of one place are one of two places, but for what they hand each other.
	two, _, err := quotient.Branching(systemOf(t, "C"))
	want, _, err2 := quotient.Branching(systemOf(t, "D"))
	if err != nil || err2 != nil {
		t.Fatal(err, err2)
	}
	if two.States != 3 || want.States != 3 || !sameOf(t, two, want) {
		t.Errorf("%v, not %v", two, want)
	}
	if sameOf(t, systemOf(t, "C"), systemOf(t, "D")) {
		t.Error("what they hand each other is not seen")
	}
}

func TestTheOrderOfEdges(t *testing.T) {
	x := &numbers{at: 4}
	for range 200 {
		s := x.system(2+x.below(10), 3, 30)
		classes := x.classes(s.States, 3)
		turned := s
		turned.Edges = slices.Clone(s.Edges)
		slices.Reverse(turned.Edges)
		turned.Edges = append(turned.Edges, s.Edges...)
		for _, name := range []string{"Of", "Strong", "Branching", "Same"} {
			want, _ := calls(classes, given(2))[name](s)
			if got, _ := calls(classes, given(2))[name](turned); got != want {
				t.Errorf("%s of %v by %v: %s, turned %s", name, s, classes, want, got)
			}
		}
	}
}

// spoil writes over a list, and over all room behind it.
func spoil[T any](list []T, with T) {
	list = list[:cap(list)]
	for i := range list {
		list[i] = with
	}
}

// roomy tells a copy of a list with spare room behind it, and the whole of that room.
func roomy[T any](list []T, behind T) ([]T, []T) {
	room := append(slices.Clone(list), behind, behind, behind)
	return room[:len(list)], room
}

func TestAnswersAreNew(t *testing.T) {
	x := &numbers{at: 8}
	s, other := x.mixed(x.copied(x.system(6, 3, 20), 30)), x.mixed(ring(6, 0))
	var room, otherRoom []api.Edge
	s.Edges, room = roomy(s.Edges, api.Edge{From: 77})
	other.Edges, otherRoom = roomy(other.Edges, api.Edge{From: 78})
	classes, classRoom := roomy(x.classes(30, 4), 88)
	before, otherBefore, classBefore := slices.Clone(room), slices.Clone(otherRoom), slices.Clone(classRoom)
	told := func() string {
		all := ""
		for _, name := range []string{"Of", "Strong", "Branching", "Union", "Same"} {
			answer, err := calls(classes, other)[name](s)
			all += fmt.Sprint(name, answer, err)
		}
		return all
	}
	want := told()
	both := func(q api.System, to []int, err error) {
		kept := slices.Clone(to)
		spoil(q.Edges, api.Edge{From: -7})
		equal(t, "the list beside the system", to, kept)
		spoil(to, -7)
	}
	both(quotient.Of(s, classes, true))
	both(quotient.Of(s, upTo(30), false))
	both(quotient.Strong(s))
	both(quotient.Branching(s))
	none := api.System{Labels: 1}
	for _, two := range [][2]api.System{{s, other}, {other, s}, {s, none}, {none, s}, {s, s}} {
		u, _ := unionOf(t, two[0], two[1])
		spoil(u.Edges, api.Edge{From: -7})
	}
	if got := told(); got != want {
		t.Errorf("twice: %s, not %s", got, want)
	}
	equal(t, "the edges that were handed in", room, before)
	equal(t, "the other edges that were handed in", otherRoom, otherBefore)
	equal(t, "the classes that were handed in", classRoom, classBefore)
}
