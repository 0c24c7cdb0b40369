package rounds_test

import (
	"errors"
	"fmt"
	"slices"
	"testing"

	"semblance/api"
	"semblance/rounds"
	"semblance/strong"
	"semblance/system"
)

const (
	least    = -1 << 63
	greatest = 1<<63 - 1
)

// equal fails, unless two lists of lists are the same; nil and empty are one.
func equal(t *testing.T, what string, got, want [][]int) {
	t.Helper()
	if !slices.EqualFunc(got, want, slices.Equal) {
		t.Errorf("%s: %v, not %v", what, got, want)
	}
}

// allOf tells All of a system that is one.
func allOf(t *testing.T, s api.System) [][]int {
	t.Helper()
	all, err := rounds.All(s)
	if err != nil {
		t.Fatal(s, err)
	}
	return all
}

// ranksOf tells Ranks of a system that is one.
func ranksOf(t *testing.T, s api.System) [][]int {
	t.Helper()
	ranks, err := rounds.Ranks(s)
	if err != nil {
		t.Fatal(s, err)
	}
	return ranks
}

// ranked fails, unless two states have a rank.
func ranked(t *testing.T, s api.System, p, q, want int) {
	t.Helper()
	if got, err := rounds.Rank(s, p, q); got != want || err != nil {
		t.Errorf("Rank of %d and %d: %d, %v, not %d", p, q, got, err, want)
	}
}

// refused fails, unless err is one fault of this layer, without a place, that wraps just an error of api's.
func refused(t *testing.T, what string, err, want error) {
	t.Helper()
	f, ok := err.(*api.Fault)
	if !ok || *f != (api.Fault{Layer: "rounds", Err: want}) {
		t.Errorf("%s: %#v, not %v", what, err, want)
	}
}

// noState fails, unless two numbers are told not to be two states.
func noState(t *testing.T, s api.System, p, q int) {
	t.Helper()
	what := fmt.Sprint(p, " and ", q, " of ", s.States)
	n, err := rounds.Rank(s, p, q)
	refused(t, what, err, api.ErrIndex)
	if n != 0 {
		t.Errorf("%s: %d beside an error", what, n)
	}
}

// handedOn fails, unless err is a fault of this layer around one of system, neither with a place, around ErrSystem.
func handedOn(t *testing.T, what string, err error) {
	t.Helper()
	outer, ok := err.(*api.Fault)
	if !ok || outer.Layer != "rounds" || outer.Line != 0 || outer.Col != 0 {
		t.Errorf("%s: %#v, no fault of rounds", what, err)
		return
	}
	inner, ok := outer.Err.(*api.Fault)
	if !ok || *inner != (api.Fault{Layer: "system", Err: api.ErrSystem}) {
		t.Errorf("%s: it wraps %#v, not system's ErrSystem", what, outer.Err)
	}
	if !errors.Is(err, api.ErrSystem) || api.Code(err) != 14 {
		t.Errorf("%s: %v is told as %d", what, err, api.Code(err))
	}
}

func TestSystemsThatAreNone(t *testing.T) {
	for what, s := range noSystems() {
		all, err := rounds.All(s)
		handedOn(t, what+": All", err)
		ranks, err := rounds.Ranks(s)
		handedOn(t, what+": Ranks", err)
		if len(all)+len(ranks) > 0 {
			t.Errorf("%s: %v, %v beside an error", what, all, ranks)
		}
		// What offends in a system is told ahead of what is no state of it.
		for _, p := range []int{0, 1, 2, -1, greatest, least} {
			n, err := rounds.Rank(s, p, 0)
			handedOn(t, fmt.Sprint(what, ": Rank of ", p), err)
			if n != 0 {
				t.Errorf("%s: %d beside an error", what, n)
			}
		}
	}
}

func TestFaultsAreNew(t *testing.T) {
	calls := []func() error{
		func() error { _, err := rounds.All(api.System{}); return err },
		func() error { _, err := rounds.Rank(api.System{}, 0, 0); return err },
		func() error { _, err := rounds.Ranks(api.System{}); return err },
		func() error { _, err := rounds.Rank(given(), 0, 4); return err },
		func() error { _, err := rounds.Ranks(api.System{States: api.MaxPairs + 1, Labels: 1}); return err },
	}
	for i, call := range calls {
		first, second := call(), call()
		if first == second || i < 3 && errors.Unwrap(first) == errors.Unwrap(second) {
			t.Errorf("the call %d: the same fault twice", i)
		}
		var f *api.Fault
		if !errors.As(first, &f) {
			t.Fatalf("the call %d: %v is no fault", i, first)
		}
		f.Err = api.ErrDeep
		if errors.Is(call(), api.ErrDeep) {
			t.Errorf("the call %d: a fault that was changed", i)
		}
	}
}

func TestP1001AsTheWordsHaveIt(t *testing.T) {
	for _, s := range several() {
		equal(t, fmt.Sprint(s), allOf(t, s), roundsOf(s))
	}
}

func TestP1001Given(t *testing.T) {
	equal(t, "the example", allOf(t, given()), [][]int{{0, 0, 0, 0}, {0, 0, 1, 0}, {0, 1, 2, 1}})
	equal(t, "no state", allOf(t, api.System{Labels: 1}), [][]int{{}})
	equal(t, "one state", allOf(t, api.System{States: 1, Labels: 1, Edges: edges(0, 0, 0)}), [][]int{{0}})
	equal(t, "no edge", allOf(t, api.System{States: 3, Labels: 2, Start: 2}), [][]int{{0, 0, 0}})
	equal(t, "all alike", allOf(t, ring(3, 1)), [][]int{{0, 0, 0}})
	// The silent label is as any other here, and numbers go by the least states, not by steps.
	silent := api.System{States: 3, Labels: 2, Edges: edges(0, 0, 1, 1, 1, 1, 2, 1, 2)}
	equal(t, "a silent step", allOf(t, silent), [][]int{{0, 0, 0}, {0, 1, 1}})
	// a.(b + c) and a.b + a.c are parted by the second round alone.
	late := api.System{States: 6, Labels: 4, Edges: edges(0, 1, 1, 1, 2, 5, 1, 3, 5, 2, 1, 3, 2, 1, 4, 3, 2, 5, 4, 3, 5)}
	equal(t, "an early choice", allOf(t, late), [][]int{{0, 0, 0, 0, 0, 0}, {0, 1, 0, 2, 3, 4}, {0, 1, 2, 3, 4, 5}})
}

func TestP1001NumbersOfSteps(t *testing.T) {
	// How many steps lead to a class does not matter, nor that an edge stands twice.
	s := api.System{States: 5, Labels: 2, Edges: edges(0, 1, 2, 0, 1, 3, 0, 1, 4, 0, 1, 2, 0, 1, 2, 1, 1, 3)}
	equal(t, "three steps and one", allOf(t, s), [][]int{{0, 0, 0, 0, 0}, {0, 0, 1, 1, 1}})
	s.Edges = append(s.Edges, api.Edge{From: 4, Label: 0, To: 4})
	equal(t, "one that is unlike", allOf(t, s), [][]int{{0, 0, 0, 0, 0}, {0, 0, 1, 1, 2}, {0, 1, 2, 2, 3}})
}

func TestP1001LabelsAndClasses(t *testing.T) {
	// Many labels and classes, so that no two pairs of them may be taken for one: each state has one step, to a state that has no other like it.
	const labels, ends = 40, 25
	s := api.System{States: ends + labels*ends/2, Labels: api.MaxLabels}
	for end := range ends {
		s.Edges = append(s.Edges, api.Edge{From: end, Label: 100 + end, To: end})
	}
	for state := ends; state < s.States; state++ {
		s.Edges = append(s.Edges, api.Edge{From: state, Label: (state - ends) / ends, To: state % ends})
	}
	all := allOf(t, s)
	equal(t, "the last round", all[len(all)-1:], [][]int{upTo(s.States)})
	if len(all) != 3 || system.Together(all[1]) != ends+labels/2 {
		t.Errorf("%d rounds, %d classes in the second one", len(all), system.Together(all[1]))
	}
}

func TestP1001OneRoundAfterTheOther(t *testing.T) {
	for i, s := range great() {
		what := fmt.Sprint("the great system ", i)
		all := allOf(t, s)
		equal(t, what+": the round 0", all[:1], [][]int{make([]int, s.States)})
		for k, classes := range all {
			if !system.Classes(s, classes) {
				t.Fatalf("%s: the round %d is not in the one form: %v", what, k, classes)
			}
			// Of many rounds some are held against those ahead of them: all would take long.
			if k > 0 && (k < 5 || k%40 == 0 || k > len(all)-3) && !follows(s, all[k-1], classes) {
				t.Fatalf("%s: the round %d is not the one behind %d", what, k, k-1)
			}
			if k > 0 && system.Together(classes) <= system.Together(all[k-1]) {
				t.Fatalf("%s: the round %d parts nothing", what, k)
			}
		}
		last := all[len(all)-1]
		if !follows(s, last, last) {
			t.Errorf("%s: there is a round behind the last one", what)
		}
	}
}

// follows tells whether next is the round behind classes: by sets of ends, each held against those of the first state with the same class.
func follows(s api.System, classes, next []int) bool {
	type end struct{ label, class int }
	ends := make([]map[end]int, s.States)
	for state := range ends {
		ends[state] = map[end]int{{-1, classes[state]}: 1}
	}
	for _, e := range s.Edges {
		ends[e.From][end{e.Label, classes[e.To]}] = 1
	}
	var firsts []int // of each class of next its least state
	for state, class := range next {
		if class == len(firsts) {
			firsts = append(firsts, state)
		}
		if !sameKeys(ends[state], ends[firsts[class]]) {
			return false
		}
	}
	kinds := map[string]int{}
	for _, state := range firsts {
		kinds[fmt.Sprint(ends[state])]++
	}
	return len(kinds) == len(firsts)
}

func sameKeys[K comparable](a, b map[K]int) bool {
	for key := range a {
		if b[key] != 1 {
			return false
		}
	}
	return len(a) == len(b)
}

func TestP1001StartAndOrder(t *testing.T) {
	x := &numbers{at: 4}
	for range 50 {
		s := x.system(2+x.below(10), 3, 20)
		want := allOf(t, s)
		turned := s
		turned.Start = 1
		turned.Edges = slices.Clone(s.Edges)
		slices.Reverse(turned.Edges)
		turned.Edges = append(turned.Edges, s.Edges...)
		equal(t, fmt.Sprint(s, ", turned"), allOf(t, turned), want)
	}
}

func TestP1001AtTheLimits(t *testing.T) {
	// A chain: the round k parts the last k states from each other and from all others.
	all := allOf(t, chain(1000))
	if len(all) != 1000 {
		t.Fatalf("a chain: %d rounds", len(all))
	}
	for k, classes := range all {
		for state, class := range classes {
			if class != max(0, state-(999-k)) {
				t.Fatalf("a chain: the class of %d in the round %d: %d", state, k, class)
			}
		}
	}
	height := make([]int, 511)
	for state := range height {
		height[state] = len(fmt.Sprintf("%b", state+1)) - 1
	}
	all = allOf(t, tree(511))
	equal(t, "a full tree", all[len(all)-1:], [][]int{height})
	if len(all) != 9 {
		t.Errorf("a full tree: %d rounds", len(all))
	}
	ends := api.System{States: 1000, Labels: api.MaxLabels, Edges: edges(999, api.MaxLabels-1, 0)}
	equal(t, "one edge", allOf(t, ends), [][]int{make([]int, 1000), append(make([]int, 999), 1)})
}

func TestP1002AsTheWordsHaveIt(t *testing.T) {
	for _, s := range several() {
		all, ranks := roundsOf(s), ranksOf(t, s)
		want := make([][]int, s.States)
		for p := range want {
			for q := range s.States {
				want[p] = append(want[p], rankIn(all, p, q))
				ranked(t, s, p, q, want[p][q])
			}
		}
		equal(t, fmt.Sprint(s), ranks, want)
	}
}

func TestP1002Given(t *testing.T) {
	s := given()
	ranked(t, s, 0, 2, 1)
	ranked(t, s, 0, 1, 2)
	ranked(t, s, 1, 3, -1)
	ranked(t, s, 2, 2, -1)
	equal(t, "the example", ranksOf(t, s), [][]int{{-1, 2, 1, 2}, {2, -1, 1, -1}, {1, 1, -1, 1}, {2, -1, 1, -1}})
	equal(t, "no state", ranksOf(t, api.System{Labels: 1}), nil)
	equal(t, "one state", ranksOf(t, api.System{States: 1, Labels: 1}), [][]int{{-1}})
}

func TestP1002NoState(t *testing.T) {
	for _, s := range []api.System{given(), {Labels: 1}, {States: 1, Labels: 1}, chain(1000)} {
		for _, none := range []int{least, -1000, -1, s.States, s.States + 1, 1001, greatest} {
			noState(t, s, none, none)
			noState(t, s, none, -none)
			if s.States > 0 {
				noState(t, s, 0, none)
				noState(t, s, none, 0)
				noState(t, s, none, s.States-1)
			}
		}
	}
	noState(t, api.System{Labels: 1}, 0, 0)
}

func TestP1002ManyStates(t *testing.T) {
	// Of the pairs of more than MaxPairs states nothing is told, but of each two of them.
	for _, states := range []int{api.MaxPairs + 1, api.MaxStates} {
		for _, s := range []api.System{chain(states), {States: states, Labels: 1}} {
			ranks, err := rounds.Ranks(s)
			refused(t, fmt.Sprint(states, " states"), err, api.ErrLong)
			if len(ranks) > 0 {
				t.Errorf("%d states: %v beside an error", states, ranks)
			}
		}
		ranked(t, chain(states), 0, states-1, 1)
		ranked(t, chain(states), 0, 1, states-1)
		ranked(t, chain(states), 0, 0, -1)
	}
	ranks := ranksOf(t, chain(api.MaxPairs))
	for p, row := range ranks {
		for q, rank := range row {
			want := api.MaxPairs - max(p, q)
			if p == q {
				want = -1
			}
			if rank != want {
				t.Fatalf("a chain: the rank of %d and %d: %d, not %d", p, q, rank, want)
			}
		}
		if len(row) != api.MaxPairs {
			t.Fatalf("a chain: a row of %d", len(row))
		}
	}
}

func TestP1002AtTheLimits(t *testing.T) {
	x := &numbers{at: 7}
	for _, s := range great() {
		all := allOf(t, s)
		for range 10 {
			p, q := x.below(s.States), x.below(s.States)
			ranked(t, s, p, q, rankIn(all, p, q))
		}
	}
}

func TestP1003Strong(t *testing.T) {
	for i, s := range append(several(), great()...) {
		all := allOf(t, s)
		want, err := strong.Classes(s)
		if err != nil {
			t.Fatal(err)
		}
		equal(t, fmt.Sprint("the system ", i), all[len(all)-1:], [][]int{want})
		if len(all) > max(s.States, 1) {
			t.Errorf("the system %d: %d rounds of %d states", i, len(all), s.States)
		}
	}
}

func TestP1003Ranks(t *testing.T) {
	for i, s := range several() {
		all, ranks := allOf(t, s), ranksOf(t, s)
		for p, row := range ranks {
			for q, rank := range row {
				if rank == 0 || rank < -1 || rank >= len(all) || rank != ranks[q][p] || p == q && rank != -1 {
					t.Fatalf("the system %d: the rank of %d and %d: %d", i, p, q, rank)
				}
				for k, classes := range all {
					if (classes[p] == classes[q]) != (rank == -1 || k < rank) {
						t.Fatalf("the system %d: %d and %d, of the rank %d, in the round %d", i, p, q, rank, k)
					}
				}
			}
		}
	}
}

// spoil writes over lists, and behind them.
func spoil(lists [][]int) {
	for _, list := range lists {
		for i := range list {
			list[i] = -7
		}
		_ = append(list, -7, -7, -7)
	}
}

func TestAnswersAreNew(t *testing.T) {
	s := ring(24, 8)
	room := append(slices.Clone(s.Edges), api.Edge{From: 77})
	slices.Reverse(room[:len(room)-1])
	before := slices.Clone(room)
	s.Edges = room[:len(room)-1]
	told := func() ([][]int, [][]int, string) {
		all, ranks := allOf(t, s), ranksOf(t, s)
		return all, ranks, fmt.Sprint(all, ranks)
	}
	all, ranks, want := told()
	spoil(all)
	spoil(ranks)
	all, ranks, again := told()
	if again != want {
		t.Errorf("twice: %s, not %s", again, want)
	}
	// No list shares its room with another one.
	for _, lists := range [][][]int{all, ranks} {
		for i, list := range lists {
			kept := fmt.Sprint(lists[i+1:])
			spoil([][]int{list})
			if fmt.Sprint(lists[i+1:]) != kept {
				t.Fatalf("the list %d has room in another one", i)
			}
		}
	}
	ranked(t, s, 0, 8, -1)
	if !slices.Equal(room, before) {
		t.Errorf("what was handed in: %v, not %v", room, before)
	}
}
