package system_test

import (
	"errors"
	"fmt"
	"slices"
	"testing"

	"semblance/api"
	"semblance/system"
)

const (
	least    = -1 << 63
	greatest = 1<<63 - 1
)

// edges makes a list of edges of numbers, three an edge.
func edges(numbers ...int) []api.Edge {
	var list []api.Edge
	for three := range slices.Chunk(numbers, 3) {
		list = append(list, api.Edge{From: three[0], Label: three[1], To: three[2]})
	}
	return list
}

// given is the system of the document's examples.
func given() api.System {
	return api.System{States: 3, Labels: 2, Edges: edges(0, 1, 1, 0, 1, 1, 1, 0, 0, 2, 1, 0)}
}

// alike tells whether two systems are the same; lists that are nil and empty are one.
func alike(a, b api.System) bool {
	return a.States == b.States && a.Labels == b.Labels && a.Start == b.Start && slices.Equal(a.Edges, b.Edges)
}

// refused fails, unless err is one fault of this layer, without a place, that wraps just ErrSystem.
func refused(t *testing.T, what string, err error) {
	t.Helper()
	f, ok := err.(*api.Fault)
	if !ok || *f != (api.Fault{Layer: "system", Err: api.ErrSystem}) {
		t.Errorf("%s: %#v, not ErrSystem", what, err)
	}
}

// refusedByAll fails, unless all calls that check a system refuse it, with nothing beside the error.
func refusedByAll(t *testing.T, what string, s api.System) {
	t.Helper()
	refused(t, what+": Check", system.Check(s))
	n, err := system.Normal(s)
	refused(t, what+": Normal", err)
	g, err := system.New(s)
	refused(t, what+": New", err)
	if !alike(n, api.System{}) || g != nil {
		t.Errorf("%s: %v, %v beside an error", what, n, g)
	}
}

// takenByAll fails, unless all calls that check a system take it.
func takenByAll(t *testing.T, what string, s api.System) {
	t.Helper()
	_, err := system.Normal(s)
	g, err2 := system.New(s)
	if system.Check(s) != nil || err != nil || err2 != nil || g == nil {
		t.Errorf("%s: %v, %v, %v", what, system.Check(s), err, err2)
	}
}

// numbers makes systems out of one number after the other, the same ones each time.
type numbers struct{ at uint64 }

// below tells the next number of 0 to n - 1.
func (x *numbers) below(n int) int {
	x.at = x.at*6364136223846793005 + 1442695040888963407
	return int(x.at >> 33 % uint64(n))
}

// system tells the next system: at most so many states, labels and edges, some of which stand twice.
func (x *numbers) system(states, labels, many int) api.System {
	s := api.System{States: 1 + x.below(states), Labels: 1 + x.below(labels)}
	s.Start = x.below(s.States)
	for range x.below(many + 1) {
		e := api.Edge{From: x.below(s.States), Label: x.below(s.Labels), To: x.below(s.States)}
		s.Edges = append(s.Edges, e)
		if x.below(4) == 0 {
			s.Edges = append(s.Edges, s.Edges[x.below(len(s.Edges))])
		}
	}
	return s
}

// several tells systems of all sorts: small ones, and some at the limits.
func several() []api.System {
	all := []api.System{given(), {Labels: 1}, {Labels: 7}, {States: 1, Labels: 1}, {States: 1, Labels: 1, Edges: edges(0, 0, 0)}}
	x := &numbers{}
	for range 300 {
		all = append(all, x.system(6, 4, 14))
	}
	for range 5 {
		all = append(all, x.system(40, 9, 200))
	}
	return all
}

// wanted tells a system's edges in order, each once: all that could be, and of these the ones that are.
func wanted(s api.System) []api.Edge {
	var list []api.Edge
	for from := range s.States {
		for label := range s.Labels {
			for to := range s.States {
				if e := (api.Edge{From: from, Label: label, To: to}); slices.Contains(s.Edges, e) {
					list = append(list, e)
				}
			}
		}
	}
	return list
}

// great tells a system at all limits: each edge is there once, in falling order.
func great() api.System {
	s := api.System{States: api.MaxStates, Labels: api.MaxLabels, Start: api.MaxStates - 1}
	for i := range api.MaxEdges {
		s.Edges = append(s.Edges, api.Edge{From: i / 10, Label: api.MaxLabels - 1 - i%5, To: i % 1000})
	}
	slices.Reverse(s.Edges)
	return s
}

func TestP701Numbers(t *testing.T) {
	in := func(n, low, high int) bool { return low <= n && n <= high }
	some := []int{least, -1000, -2, -1, 0, 1, 2, 200, 201, 202, 999, 1000, 1001, greatest}
	for _, states := range some {
		for _, labels := range some {
			for _, start := range some {
				s := api.System{States: states, Labels: labels, Start: start}
				started := in(start, 0, states-1) || states == 0 && start == 0
				if states > least && in(states, 0, 1000) && in(labels, 1, 201) && started {
					takenByAll(t, fmt.Sprint(s), s)
				} else {
					refusedByAll(t, fmt.Sprint(s), s)
				}
			}
		}
	}
}

func TestP701Edges(t *testing.T) {
	offending := func(e api.Edge) {
		for place := range 4 {
			s := api.System{States: 3, Labels: 2, Edges: slices.Insert(edges(0, 0, 0, 2, 1, 2, 1, 0, 2), place, e)}
			refusedByAll(t, fmt.Sprint(s), s)
		}
	}
	for _, n := range []int{least, -1, 3, 4, 1000, greatest} {
		offending(api.Edge{From: n})
		offending(api.Edge{To: n})
	}
	for _, n := range []int{least, -1, 2, 3, 201, greatest} {
		offending(api.Edge{Label: n})
	}
	for from := range 3 {
		for label := range 2 {
			for to := range 3 {
				s := api.System{States: 3, Labels: 2, Start: 2, Edges: edges(0, 0, 0, from, label, to)}
				takenByAll(t, fmt.Sprint(s), s)
			}
		}
	}
	refusedByAll(t, "an edge without a state", api.System{Labels: 1, Edges: edges(0, 0, 0)})
}

func TestP701Limits(t *testing.T) {
	s := great()
	takenByAll(t, "all limits", s)
	s.Edges = append(s.Edges, s.Edges[0])
	refusedByAll(t, "an edge too many, that stands there already", s)
	s.Edges[0] = api.Edge{From: 1, Label: 0, To: 1}
	refusedByAll(t, "an edge too many", s)
	takenByAll(t, "one edge, again and again", api.System{States: 1, Labels: 1, Edges: make([]api.Edge, api.MaxEdges)})
	refusedByAll(t, "one edge, too often", api.System{States: 1, Labels: 1, Edges: make([]api.Edge, api.MaxEdges+1)})
	s = great()
	s.States++
	refusedByAll(t, "a state too many", s)
	s = great()
	s.Labels++
	refusedByAll(t, "a label too many", s)
}

func TestP701Rows(t *testing.T) {
	refusedByAll(t, "a start that is no state", api.System{States: 1, Labels: 1, Start: 1})
	takenByAll(t, "no state", api.System{Labels: 1})
	refusedByAll(t, "nothing", api.System{})
}

func TestP701FaultsAreNew(t *testing.T) {
	a, b := system.Check(api.System{}), system.Check(api.System{})
	if a == b || !errors.Is(a, api.ErrSystem) || api.Code(b) != 14 {
		t.Errorf("%v, %v", a, b)
	}
	a.(*api.Fault).Layer = "other"
	refusedByAll(t, "once more", api.System{})
}

func TestP702Normal(t *testing.T) {
	for _, s := range several() {
		got, err := system.Normal(s)
		want := s
		want.Edges = wanted(s)
		if err != nil || !alike(got, want) {
			t.Errorf("%v: %v, %v, not %v", s, got, err, want)
		}
	}
	s := given()
	slices.Reverse(s.Edges)
	if got, err := system.Normal(s); err != nil || !slices.Equal(got.Edges, edges(0, 1, 1, 1, 0, 0, 2, 1, 0)) {
		t.Errorf("the example: %v, %v", got, err)
	}
	got, err := system.Normal(great())
	if err != nil || len(got.Edges) != api.MaxEdges {
		t.Errorf("all limits: %d edges, %v", len(got.Edges), err)
	}
	got, err = system.Normal(api.System{States: 1, Labels: 1, Edges: make([]api.Edge, api.MaxEdges)})
	if err != nil || len(got.Edges) != 1 {
		t.Errorf("one edge, again and again: %v, %v", got, err)
	}
}

// roomy tells the example with spare room behind its edges, and the whole of that room.
func roomy() (api.System, []api.Edge) {
	s := given()
	room := append(s.Edges, edges(7, 7, 7, 8, 8, 8)...)
	slices.Reverse(room[:4])
	s.Edges = room[:4]
	return s, room
}

func TestP702NormalIsNew(t *testing.T) {
	s, room := roomy()
	before := slices.Clone(room)
	got, _ := system.Normal(s)
	_ = append(got.Edges, edges(9, 9, 9, 9, 9, 9)...)
	got.Edges[0] = api.Edge{From: 9}
	if !slices.Equal(room, before) {
		t.Errorf("%v has become %v", before, room)
	}
	// One that is in order already is copied, too.
	s = api.System{States: 2, Labels: 2, Edges: edges(0, 1, 1, 1, 0, 0)}
	got, _ = system.Normal(s)
	got.Edges[1].To = 1
	if !slices.Equal(s.Edges, edges(0, 1, 1, 1, 0, 0)) {
		t.Errorf("%v", s)
	}
}

// lists tells all lists of at most so many of these numbers.
func lists(many int, of ...int) [][]int {
	all := [][]int{nil}
	for from, length := 0, 0; length < many; length++ {
		end := len(all)
		for _, list := range all[from:end] {
			for _, n := range of {
				all = append(all, append(slices.Clone(list), n))
			}
		}
		from = end
	}
	return all
}

// oneForm tells whether classes are numbered by their least states, without a gap.
func oneForm(classes []int) bool {
	for state, class := range classes {
		highest := slices.Max(append([]int{-1}, classes[:state]...))
		if class < 0 || class > highest+1 {
			return false
		}
	}
	return true
}

func TestP702Canon(t *testing.T) {
	for _, classes := range lists(5, 9, least, 0, 1, greatest) {
		before := slices.Clone(classes)
		form := system.Canon(classes)
		if len(form) != len(classes) || !oneForm(form) || !slices.Equal(before, classes) {
			t.Fatalf("%v: %v", before, form)
		}
		for p := range classes {
			for q := range p {
				if (classes[p] == classes[q]) != (form[p] == form[q]) {
					t.Errorf("%v: %v has not the same states together", classes, form)
				}
			}
		}
		if again := system.Canon(form); !slices.Equal(again, form) {
			t.Errorf("%v: %v, then %v", classes, form, again)
		}
	}
	if got := system.Canon([]int{5, -2, 5, 9}); !slices.Equal(got, []int{0, 1, 0, 2}) {
		t.Errorf("the example: %v", got)
	}
	if got := system.Canon(nil); len(got) > 0 {
		t.Errorf("of none: %v", got)
	}
}

func TestP702CanonIsNew(t *testing.T) {
	room := []int{0, 1, 0, 7, 7}
	got := system.Canon(room[:3])
	_ = append(got, 5, 5)
	got[0] = 9
	if !slices.Equal(room, []int{0, 1, 0, 7, 7}) {
		t.Errorf("what was handed in: %v", room)
	}
}

func TestP702ManyClasses(t *testing.T) {
	// There may be more of them than a system has states.
	many := make([]int, 100_000)
	for i := range many {
		many[i] = -3 * (i / 2)
	}
	form := system.Canon(many)
	for i := range many {
		if form[i] != i/2 {
			t.Fatalf("the class of %d: %d", i, form[i])
		}
	}
	if got := system.Together(many); got != 50_000 {
		t.Errorf("%d classes", got)
	}
}

func TestP702Classes(t *testing.T) {
	for _, classes := range lists(4, -1, 0, 1, 2, 3, 4, least, greatest) {
		for states := range 6 {
			want := len(classes) == states && oneForm(classes)
			if got := system.Classes(api.System{States: states, Labels: 1}, classes); got != want {
				t.Errorf("%v of %d states: %v", classes, states, got)
			}
		}
	}
	for _, states := range []int{least, -1, 1, 3, greatest} {
		if system.Classes(api.System{States: states, Labels: 1}, nil) || system.Classes(api.System{States: states, Labels: 1}, []int{0, 0}) {
			t.Errorf("none and two, of %d states", states)
		}
	}
	// Its states alone are asked for.
	if s := given(); !system.Classes(s, []int{0, 1, 1}) || system.Classes(s, []int{0, 2, 1}) || system.Classes(s, []int{0, 1, 1, 0}) {
		t.Error("the example")
	}
}

func TestP702Together(t *testing.T) {
	for _, classes := range lists(5, 4, least, 0, 1, greatest) {
		sorted := slices.Clone(classes)
		slices.Sort(sorted)
		if got, want := system.Together(classes), len(slices.Compact(sorted)); got != want {
			t.Errorf("%v: %d, not %d", classes, got, want)
		}
	}
	if got := system.Together([]int{0, 1, 0, 2}); got != 3 {
		t.Errorf("the example: %d", got)
	}
}
