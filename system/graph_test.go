package system_test

import (
	"fmt"
	"slices"
	"testing"

	"semblance/api"
	"semblance/system"
)

// graphOf makes the graph of a system that is one.
func graphOf(t *testing.T, s api.System) *system.Graph {
	t.Helper()
	g, err := system.New(s)
	if err != nil || g == nil {
		t.Fatal(s, g, err)
	}
	return g
}

// equal fails, unless two lists are the same; nil and empty are one.
func equal[T comparable](t *testing.T, what string, got, want []T) {
	t.Helper()
	if !slices.Equal(got, want) {
		t.Errorf("%s: %v, not %v", what, got, want)
	}
}

// around tells numbers of states or labels, and some that are none.
func around(n int) []int {
	all := []int{least, -1000, -1, n, n + 1, 1000, 1001, greatest}
	for i := range n {
		all = append(all, i)
	}
	return all
}

// steps tells of each edge with one end at a state the label and the other end, by rising label, then that end.
func steps(s api.System, state int, ends func(api.Edge) (int, int)) []api.Step {
	var list []api.Step
	for label := range s.Labels {
		for other := range s.States {
			if slices.ContainsFunc(s.Edges, func(e api.Edge) bool {
				here, there := ends(e)
				return here == state && there == other && e.Label == label
			}) {
				list = append(list, api.Step{Label: label, To: other})
			}
		}
	}
	return list
}

func outward(e api.Edge) (int, int) { return e.From, e.To }
func inward(e api.Edge) (int, int)  { return e.To, e.From }

// led tells where those of steps with a label lead.
func led(list []api.Step, label int) []int {
	var to []int
	for _, step := range list {
		if step.Label == label {
			to = append(to, step.To)
		}
	}
	return to
}

// reachable tells the reachable states: as many rounds over all edges as there are states.
func reachable(s api.System) []int {
	var list []int
	reached := make([]bool, s.States)
	for round := range s.States {
		reached[s.Start] = reached[s.Start] || round == 0
		for _, e := range s.Edges {
			reached[e.To] = reached[e.To] || reached[e.From]
		}
	}
	for state, is := range reached {
		if is {
			list = append(list, state)
		}
	}
	return list
}

func TestP703Numbers(t *testing.T) {
	for _, s := range append(several(), great()) {
		g := graphOf(t, s)
		if g.States() != s.States || g.Labels() != s.Labels || g.Start() != s.Start {
			t.Errorf("%v: %d states, %d labels, the start %d", s, g.States(), g.Labels(), g.Start())
		}
	}
}

func TestP703Tables(t *testing.T) {
	for _, s := range several() {
		g := graphOf(t, s)
		for _, state := range around(s.States) {
			what := fmt.Sprint(s, ", the state ", state)
			out, in := steps(s, state, outward), steps(s, state, inward)
			equal(t, what+": Out", g.Out(state), out)
			equal(t, what+": In", g.In(state), in)
			for _, label := range around(s.Labels) {
				equal(t, fmt.Sprint(what, ": By ", label), g.By(state, label), led(out, label))
				equal(t, fmt.Sprint(what, ": From ", label), g.From(state, label), led(in, label))
			}
		}
	}
}

func TestP703EdgesReachDegree(t *testing.T) {
	for _, s := range several() {
		g := graphOf(t, s)
		what := fmt.Sprint(s)
		equal(t, what+": Edges", g.Edges(), wanted(s))
		equal(t, what+": Reach", g.Reach(), reachable(s))
		degree := 0
		for state := range s.States {
			degree = max(degree, len(steps(s, state, outward)))
		}
		if got := g.Degree(); got != degree {
			t.Errorf("%s: Degree: %d, not %d", what, got, degree)
		}
	}
}

func TestP703Rows(t *testing.T) {
	g := graphOf(t, given())
	equal(t, "In(1)", g.In(1), []api.Step{{Label: 1, To: 0}})
	equal(t, "From(0, 1)", g.From(0, 1), []int{2})
	equal(t, "Reach", g.Reach(), []int{0, 1})
	if g.Degree() != 1 {
		t.Errorf("Degree: %d, though an edge that stands twice counts once", g.Degree())
	}
	// The numbers of states rise, whatever the order is in which they are reached.
	g = graphOf(t, api.System{States: 5, Labels: 2, Start: 3, Edges: edges(3, 1, 4, 4, 0, 0, 0, 1, 2, 1, 0, 0)})
	equal(t, "Reach from 3", g.Reach(), []int{0, 2, 3, 4})
}

func TestP703Limits(t *testing.T) {
	s := great()
	g := graphOf(t, s)
	normal, _ := system.Normal(s)
	equal(t, "Edges", g.Edges(), normal.Edges)
	if g.Degree() != 10 || len(g.Out(999)) != 10 || len(g.In(999)) != 10 {
		t.Errorf("%d, %v, %v", g.Degree(), g.Out(999), g.In(999))
	}
	equal(t, "By", g.By(999, 200), []int{990, 995})
	equal(t, "From", g.From(0, 200), []int{0, 100, 200, 300, 400, 500, 600, 700, 800, 900})
	// One state has as many steps as there may be.
	one := api.System{States: 100, Labels: 100, Start: 7}
	for i := range api.MaxEdges {
		one.Edges = append(one.Edges, api.Edge{From: 7, Label: i % 100, To: i / 100})
	}
	g = graphOf(t, one)
	if g.Degree() != api.MaxEdges || len(g.Reach()) != 100 || len(g.By(7, 99)) != 100 || len(g.In(99)) != 100 || len(g.Out(8)) != 0 {
		t.Errorf("%d, %v", g.Degree(), g.Reach())
	}
	// A path through all states, down from the last one.
	row := api.System{States: api.MaxStates, Labels: 1, Start: api.MaxStates - 1}
	for state := 1; state < api.MaxStates; state++ {
		row.Edges = append(row.Edges, api.Edge{From: state, To: state - 1})
	}
	if got := graphOf(t, row).Reach(); len(got) != api.MaxStates || !slices.IsSorted(got) {
		t.Errorf("%d states: %v", len(got), got)
	}
	row.Start = 0
	equal(t, "from the lowest one", graphOf(t, row).Reach(), []int{0})
}

func TestP703NothingIsKeptNorChanged(t *testing.T) {
	s, room := roomy()
	before := slices.Clone(room)
	g := graphOf(t, s)
	equal(t, "what was handed in", room, before)
	for i := range room {
		room[i] = api.Edge{From: 9, Label: 9, To: 9}
	}
	equal(t, "Edges", g.Edges(), edges(0, 1, 1, 1, 0, 0, 2, 1, 0))
	equal(t, "In", g.In(0), []api.Step{{Label: 0, To: 1}, {Label: 1, To: 2}})
}

// spoilt writes over a list and behind it.
func spoilt[T any](list []T, with T) {
	for i := range list {
		list[i] = with
	}
	_ = append(list, with, with)
}

func TestP703AnswersAreNew(t *testing.T) {
	s := api.System{States: 4, Labels: 2, Start: 2, Edges: edges(2, 1, 3, 2, 0, 1, 3, 0, 3, 0, 1, 1)}
	g := graphOf(t, s)
	told := func() string {
		all := fmt.Sprint(g.States(), g.Labels(), g.Start(), g.Edges(), g.Reach(), g.Degree())
		for state := range 4 {
			all += fmt.Sprint(g.Out(state), g.In(state), g.By(state, 0), g.From(state, 0), g.By(state, 1), g.From(state, 1))
		}
		cut, to := g.Cut()
		return all + fmt.Sprint(cut, to)
	}
	want := told()
	for state := range 4 {
		spoilt(g.Out(state), api.Step{Label: 9, To: 9})
		spoilt(g.In(state), api.Step{Label: 9, To: 9})
		spoilt(g.By(state, 1), 9)
		spoilt(g.From(state, 1), 9)
	}
	spoilt(g.Edges(), api.Edge{From: 9, Label: 9, To: 9})
	spoilt(g.Reach(), 9)
	cut, to := g.Cut()
	spoilt(cut.Edges, api.Edge{From: 9, Label: 9, To: 9})
	spoilt(to, 9)
	if got := told(); got != want {
		t.Errorf("%s, not %s", got, want)
	}
}

func TestP704Cut(t *testing.T) {
	cutOff := 0
	for _, s := range several() {
		reach := reachable(s)
		want := api.System{States: len(reach), Labels: s.Labels, Start: max(slices.Index(reach, s.Start), 0)}
		for _, e := range wanted(s) {
			// A state that a reachable one leads to is reachable.
			if from := slices.Index(reach, e.From); from >= 0 {
				want.Edges = append(want.Edges, api.Edge{From: from, Label: e.Label, To: slices.Index(reach, e.To)})
			}
		}
		var numbers []int
		for state := range s.States {
			numbers = append(numbers, slices.Index(reach, state))
		}
		got, to := graphOf(t, s).Cut()
		equal(t, fmt.Sprint(s, ": new numbers"), to, numbers)
		if !alike(got, want) || system.Check(got) != nil {
			t.Errorf("%v: %v, not %v", s, got, want)
		}
		again, _ := graphOf(t, got).Cut()
		if !alike(again, got) {
			t.Errorf("%v: cut twice: %v, not %v", s, again, got)
		}
		cutOff = max(cutOff, s.States-got.States)
	}
	if cutOff < 3 {
		t.Errorf("no system lost more than %d states", cutOff)
	}
}

func TestP704Rows(t *testing.T) {
	cut, to := graphOf(t, given()).Cut()
	equal(t, "new numbers", to, []int{0, 1, -1})
	if want := (api.System{States: 2, Labels: 2, Edges: edges(0, 1, 1, 1, 0, 0)}); !alike(cut, want) {
		t.Errorf("%v, not %v", cut, want)
	}
	cut, to = graphOf(t, api.System{States: 4, Labels: 3, Start: 2, Edges: edges(2, 1, 3, 2, 0, 1, 3, 0, 3, 0, 2, 2)}).Cut()
	equal(t, "new numbers", to, []int{-1, 0, 1, 2})
	if want := (api.System{States: 3, Labels: 3, Start: 1, Edges: edges(1, 0, 0, 1, 1, 2, 2, 0, 2)}); !alike(cut, want) {
		t.Errorf("%v, not %v", cut, want)
	}
	cut, to = graphOf(t, api.System{Labels: 5}).Cut()
	if want := (api.System{Labels: 5}); !alike(cut, want) || len(to) > 0 {
		t.Errorf("without a state: %v, %v", cut, to)
	}
}

func TestP705NoGraph(t *testing.T) {
	for what, g := range map[string]*system.Graph{"nil": nil, "zero": {}} {
		if g.States() != 0 || g.Labels() != 0 || g.Start() != 0 || g.Degree() != 0 {
			t.Errorf("%s: %d, %d, %d, %d", what, g.States(), g.Labels(), g.Start(), g.Degree())
		}
		for _, n := range around(2) {
			for _, label := range around(2) {
				if len(g.By(n, label))+len(g.From(n, label)) > 0 {
					t.Errorf("%s: By and From of %d, %d", what, n, label)
				}
			}
			if len(g.Out(n))+len(g.In(n)) > 0 {
				t.Errorf("%s: Out and In of %d", what, n)
			}
		}
		cut, to := g.Cut()
		if !alike(cut, api.System{}) || len(to)+len(g.Edges())+len(g.Reach()) > 0 {
			t.Errorf("%s: %v, %v, %v, %v", what, cut, to, g.Edges(), g.Reach())
		}
	}
}

func TestP705NoState(t *testing.T) {
	g := graphOf(t, api.System{Labels: 4})
	if g.States() != 0 || g.Labels() != 4 || g.Start() != 0 || g.Degree() != 0 || len(g.Edges())+len(g.Reach())+len(g.Out(0))+len(g.In(0))+len(g.By(0, 0))+len(g.From(0, 0)) > 0 {
		t.Errorf("%+v", g)
	}
}
