package refine_test

import (
	"errors"
	"fmt"
	"slices"
	"testing"

	"semblance/api"
	"semblance/refine"
)

const (
	least    = -1 << 63
	greatest = 1<<63 - 1
)

// fails fails, unless err is one fault of this layer, without a place, that wraps just want.
func fails(t *testing.T, what string, err, want error) {
	t.Helper()
	f, ok := err.(*api.Fault)
	if !ok || *f != (api.Fault{Layer: "refine", Err: want}) {
		t.Errorf("%s: %#v, not %v", what, err, want)
	}
}

// equal fails, unless two lists are the same; nil and empty are one.
func equal(t *testing.T, what string, got, want []int) {
	t.Helper()
	if !slices.Equal(got, want) {
		t.Errorf("%s: %v, not %v", what, got, want)
	}
}

// model is a partition as the words have it: of each element its block, and whether it is marked.
type model struct {
	block  []int
	marked []bool
	blocks int
}

// modelOf makes the model of blocks that are in the one form.
func modelOf(form []int) *model {
	m := &model{block: slices.Clone(form), marked: make([]bool, len(form))}
	if len(form) > 0 {
		m.blocks = slices.Max(form) + 1
	}
	return m
}

// members tells the elements of a block, and of these the marked ones.
func (m *model) members(b int) (all, marked []int) {
	for e, block := range m.block {
		if block == b {
			all = append(all, e)
			if m.marked[e] {
				marked = append(marked, e)
			}
		}
	}
	return all, marked
}

func (m *model) mark(e int) bool {
	was := m.marked[e]
	m.marked[e] = true
	return !was
}

func (m *model) split(b int) (int, bool) {
	all, marked := m.members(b)
	var others []int
	for _, e := range all {
		if !m.marked[e] {
			others = append(others, e)
		}
		m.marked[e] = false
	}
	if len(marked) == 0 || len(others) == 0 {
		return 0, false
	}
	fresh := marked
	if len(others) < len(marked) {
		fresh = others
	}
	for _, e := range fresh {
		m.block[e] = m.blocks
	}
	m.blocks++
	return m.blocks - 1, true
}

// oneForm tells classes in the one form: a class's number is that of the classes whose least element is less.
func oneForm(classes []int) []int {
	form := make([]int, len(classes))
	for e, class := range classes {
		for other := range slices.Index(classes, class) {
			if slices.Index(classes, classes[other]) == other {
				form[e]++
			}
		}
	}
	return form
}

// agree fails, unless all that a partition tells is what the model has.
func agree(t *testing.T, what string, p *refine.Partition, m *model) {
	t.Helper()
	if p.Size() != len(m.block) || p.Blocks() != m.blocks {
		t.Errorf("%s: %d elements, %d blocks, not %d and %d", what, p.Size(), p.Blocks(), len(m.block), m.blocks)
	}
	for e, want := range m.block {
		if got, err := p.Block(e); got != want || err != nil {
			t.Errorf("%s: Block(%d): %d, %v, not %d", what, e, got, err, want)
		}
	}
	var blocks []int
	for b := range m.blocks {
		all, marked := m.members(b)
		got, err := p.Members(b)
		equal(t, fmt.Sprint(what, ": Members ", b), got, all)
		marks, err2 := p.Marks(b)
		if marks != len(marked) || err != nil || err2 != nil {
			t.Errorf("%s: Marks(%d): %d, not %d (%v, %v)", what, b, marks, len(marked), err, err2)
		}
		if len(got) == 0 {
			t.Errorf("%s: the block %d is empty", what, b)
		}
		if len(marked) > 0 {
			blocks = append(blocks, b)
		}
	}
	equal(t, what+": Marked", p.Marked(), blocks)
	equal(t, what+": Classes", p.Classes(), oneForm(m.block))
}

// refuses fails, unless all calls that ask for an element or a block refuse those that are not there.
func refuses(t *testing.T, what string, p *refine.Partition) {
	t.Helper()
	for _, n := range []int{least, -1 << 32, -1000, -1, p.Size(), p.Size() + 1, 999, 1000, 1001, 1 << 32, greatest} {
		if n >= 0 && n < p.Size() {
			continue
		}
		elementFails(t, fmt.Sprint(what, ", the element ", n), p, n, api.ErrIndex)
	}
	for _, n := range []int{least, -1 << 32, -1000, -1, p.Blocks(), p.Blocks() + 1, 999, 1000, 1001, 1 << 32, greatest} {
		if n >= 0 && n < p.Blocks() {
			continue
		}
		blockFails(t, fmt.Sprint(what, ", the block ", n), p, n, api.ErrIndex)
	}
}

func elementFails(t *testing.T, what string, p *refine.Partition, e int, want error) {
	t.Helper()
	block, err := p.Block(e)
	fails(t, what+": Block", err, want)
	is, err := p.Mark(e)
	fails(t, what+": Mark", err, want)
	if block != 0 || is {
		t.Errorf("%s: %d, %v beside an error", what, block, is)
	}
}

func blockFails(t *testing.T, what string, p *refine.Partition, b int, want error) {
	t.Helper()
	members, err := p.Members(b)
	fails(t, what+": Members", err, want)
	marks, err := p.Marks(b)
	fails(t, what+": Marks", err, want)
	number, is, err := p.Split(b)
	fails(t, what+": Split", err, want)
	if len(members) > 0 || marks != 0 || number != 0 || is {
		t.Errorf("%s: %v, %d, %d, %v beside an error", what, members, marks, number, is)
	}
}

// made makes a partition of one block.
func made(t *testing.T, n int) *refine.Partition {
	t.Helper()
	p, err := refine.New(n)
	if p == nil || err != nil {
		t.Fatal(n, p, err)
	}
	return p
}

// madeOf makes the partition of classes.
func madeOf(t *testing.T, classes []int) *refine.Partition {
	t.Helper()
	p, err := refine.Of(classes)
	if p == nil || err != nil {
		t.Fatal(len(classes), p, err)
	}
	return p
}

func TestP801New(t *testing.T) {
	for _, n := range []int{0, 1, 2, 3, 7, 999, api.MaxStates} {
		p := made(t, n)
		agree(t, fmt.Sprint(n), p, modelOf(make([]int, n)))
		refuses(t, fmt.Sprint(n), p)
	}
	for _, n := range []int{least, -1 << 32, -1000, -1, api.MaxStates + 1, 1 << 32, greatest} {
		p, err := refine.New(n)
		fails(t, fmt.Sprint(n), err, api.ErrArg)
		if p != nil {
			t.Errorf("%d: a partition beside an error", n)
		}
	}
}

// lists tells all lists of at most so many of some numbers.
func lists(most int, some ...int) [][]int {
	all := [][]int{nil}
	for i := 0; i < len(all); i++ {
		if len(all[i]) < most {
			for _, n := range some {
				all = append(all, append(slices.Clone(all[i]), n))
			}
		}
	}
	return all
}

func TestP801Of(t *testing.T) {
	for _, classes := range append(lists(5, 2, -1, 0, greatest), lists(4, 3, 0, 1, 2, least, 1000)...) {
		p := madeOf(t, classes)
		agree(t, fmt.Sprint(classes), p, modelOf(oneForm(classes)))
		refuses(t, fmt.Sprint(classes), p)
	}
	equal(t, "the one form", madeOf(t, []int{7, -1, 7, 0}).Classes(), []int{0, 1, 0, 2})
}

func TestP801OfMany(t *testing.T) {
	for _, size := range []int{999, api.MaxStates, api.MaxStates + 1, 5000} {
		for _, kinds := range []int{1, 2, 31, size} {
			classes := make([]int, size)
			for e := range classes {
				classes[e] = 5 - e*7%kinds
			}
			p, err := refine.Of(classes)
			switch {
			case size > api.MaxStates:
				fails(t, fmt.Sprint(size), err, api.ErrArg)
				if p != nil {
					t.Errorf("%d: a partition beside an error", size)
				}
			case err != nil:
				t.Errorf("%d of %d kinds: %v", size, kinds, err)
			default:
				agree(t, fmt.Sprint(size, " of ", kinds, " kinds"), p, modelOf(oneForm(classes)))
			}
		}
	}
}

func TestP801OfKeepsNothing(t *testing.T) {
	room := []int{4, 9, 4, 8, 8}
	p := madeOf(t, room[:3])
	if _, err := p.Mark(2); err != nil {
		t.Fatal(err)
	}
	if n, is, err := p.Split(0); n != 2 || !is || err != nil {
		t.Errorf("the split: %d, %v, %v", n, is, err)
	}
	equal(t, "what was handed in", room, []int{4, 9, 4, 8, 8})
	room[0], room[1] = 1, 1
	equal(t, "the classes", p.Classes(), []int{0, 1, 2})
}

func TestP801Zero(t *testing.T) {
	var zero refine.Partition
	agree(t, "a zero one", &zero, modelOf(nil))
	refuses(t, "a zero one", &zero)
	agree(t, "a zero one, asked", &zero, modelOf(nil))
	agree(t, "of no class", madeOf(t, nil), modelOf(nil))
}

func TestP801Nil(t *testing.T) {
	var none *refine.Partition
	if none.Size() != 0 || none.Blocks() != 0 || len(none.Marked()) > 0 || len(none.Classes()) > 0 {
		t.Error("a nil one has something")
	}
	for _, n := range []int{least, -1, 0, 1, greatest} {
		elementFails(t, fmt.Sprint("the element ", n, " of none"), none, n, api.ErrArg)
		blockFails(t, fmt.Sprint("the block ", n, " of none"), none, n, api.ErrArg)
	}
}

func TestP802FaultsAreNew(t *testing.T) {
	p := made(t, 2)
	calls := []func() error{
		func() error { _, err := refine.New(-1); return err },
		func() error { _, err := refine.Of(make([]int, api.MaxStates+1)); return err },
		func() error { _, err := p.Block(2); return err },
		func() error { _, _, err := p.Split(1); return err },
	}
	for i, call := range calls {
		first, second := call(), call()
		if first == second {
			t.Errorf("the call %d: the same fault twice", i)
		}
		var f *api.Fault
		if !errors.As(first, &f) {
			t.Fatalf("the call %d: %v is no fault", i, first)
		}
		f.Layer, f.Err = "another", api.ErrDeep
		if third := call(); errors.Is(third, api.ErrDeep) {
			t.Errorf("the call %d: a fault that was changed", i)
		}
	}
}

// marks marks elements, and holds what is told against the model.
func marks(t *testing.T, what string, p *refine.Partition, m *model, elements ...int) {
	t.Helper()
	for _, e := range elements {
		want := m.mark(e)
		if got, err := p.Mark(e); got != want || err != nil {
			t.Errorf("%s: Mark(%d): %v, %v, not %v", what, e, got, err, want)
		}
	}
}

// splits splits a block, and holds what is told against the model.
func splits(t *testing.T, what string, p *refine.Partition, m *model, b int) {
	t.Helper()
	number, is := m.split(b)
	if gotNumber, got, err := p.Split(b); gotNumber != number || got != is || err != nil {
		t.Errorf("%s: Split(%d): %d, %v, %v, not %d, %v", what, b, gotNumber, got, err, number, is)
	}
}

func TestP802MarkEach(t *testing.T) {
	for size := range 6 {
		numbers := make([]int, size)
		for i := range numbers {
			numbers[i] = i
		}
		// Also in each order, and those that are marked already.
		for _, order := range lists(min(size+1, 5), numbers...) {
			p, m := made(t, size), modelOf(make([]int, size))
			what := fmt.Sprint(size, " elements, marked ", order)
			marks(t, what, p, m, order...)
			agree(t, what, p, m)
		}
	}
}

func TestP802AnswersAreNew(t *testing.T) {
	p, m := made(t, 6), modelOf(make([]int, 6))
	marks(t, "first", p, m, 1, 4)
	splits(t, "first", p, m, 0)
	marks(t, "then", p, m, 5, 1)
	for range 2 {
		members, err := p.Members(0)
		if err != nil {
			t.Fatal(err)
		}
		for _, list := range [][]int{members, p.Classes(), p.Marked()} {
			_ = append(list, 77, 77, 77)
			for i := range list {
				list[i] = -9
			}
		}
		agree(t, "what was answered is changed", p, m)
	}
}

func TestP802RefusedChangesNothing(t *testing.T) {
	p, m := madeOf(t, []int{0, 1, 0, 1, 0}), modelOf([]int{0, 1, 0, 1, 0})
	marks(t, "first", p, m, 3, 4)
	refuses(t, "first", p)
	agree(t, "behind refused calls", p, m)
	splits(t, "behind refused calls", p, m, 0)
	refuses(t, "split", p)
	agree(t, "split", p, m)
}

func TestP803EachSplit(t *testing.T) {
	// All sets of marks of two blocks, of all sizes up to 4 each, that lie in one another.
	for size := 1; size <= 8; size++ {
		classes := make([]int, size)
		for e := range classes {
			classes[e] = e % 2
		}
		for set := range 1 << size {
			for b := range min(size, 2) {
				p, m := madeOf(t, classes), modelOf(oneForm(classes))
				what := fmt.Sprintf("%d elements, marked %b", size, set)
				for e := range size {
					if set>>e&1 == 1 {
						marks(t, what, p, m, size-1-e)
					}
				}
				splits(t, what, p, m, b)
				agree(t, what, p, m)
				splits(t, what, p, m, b)
				agree(t, what+", once more", p, m)
			}
		}
	}
}

func TestP803TheSmallerPart(t *testing.T) {
	for _, c := range []struct {
		marked       []int
		number       int
		is           bool
		stays, fresh []int
	}{
		{nil, 0, false, []int{0, 1, 2, 3}, nil},
		{[]int{2}, 1, true, []int{0, 1, 3}, []int{2}},
		{[]int{3, 0}, 1, true, []int{1, 2}, []int{0, 3}},
		{[]int{3, 0, 2}, 1, true, []int{0, 2, 3}, []int{1}},
		{[]int{3, 0, 2, 1}, 0, false, []int{0, 1, 2, 3}, nil},
	} {
		p, what := made(t, 4), fmt.Sprint("marked ", c.marked)
		for _, e := range c.marked {
			if is, err := p.Mark(e); !is || err != nil {
				t.Error(what, is, err)
			}
		}
		if number, is, err := p.Split(0); number != c.number || is != c.is || err != nil {
			t.Errorf("%s: %d, %v, %v", what, number, is, err)
		}
		stays, err := p.Members(0)
		equal(t, what+": what stays", stays, c.stays)
		fresh, err2 := p.Members(1)
		equal(t, what+": what is new", fresh, c.fresh)
		if err != nil || (err2 == nil) != c.is || len(p.Marked()) > 0 {
			t.Errorf("%s: %v, %v, marked %v", what, err, err2, p.Marked())
		}
	}
}

func TestP803OtherMarksStay(t *testing.T) {
	start := []int{0, 0, 0, 1, 1, 2, 2}
	p, m := madeOf(t, start), modelOf(start)
	marks(t, "three blocks", p, m, 1, 3, 4, 6)
	splits(t, "none but its own", p, m, 0)
	equal(t, "the others", p.Marked(), []int{1, 2})
	agree(t, "the others", p, m)
	splits(t, "all marked", p, m, 1)
	equal(t, "the other", p.Marked(), []int{2})
	agree(t, "the other", p, m)
}

func TestP803Example(t *testing.T) {
	p, m := made(t, 5), modelOf(make([]int, 5))
	marks(t, "first", p, m, 1, 3, 1)
	splits(t, "first", p, m, 0)
	splits(t, "again", p, m, 0)
	marks(t, "then", p, m, 0, 2)
	splits(t, "then", p, m, 0)
	members, err := p.Members(0)
	equal(t, "Members", members, []int{0, 2})
	equal(t, "Classes", p.Classes(), []int{0, 1, 0, 1, 2})
	_, err2 := p.Block(5)
	_, _, err3 := p.Split(3)
	fails(t, "Block(5)", err2, api.ErrIndex)
	fails(t, "Split(3)", err3, api.ErrIndex)
	if err != nil {
		t.Error(err)
	}
}

// numbers tells one number after the other, the same ones each time.
type numbers struct{ at uint64 }

// below tells the next number of 0 to n - 1.
func (x *numbers) below(n int) int {
	x.at = x.at*6364136223846793005 + 1442695040888963407
	return int(x.at >> 33 % uint64(n))
}

func TestP804LongRuns(t *testing.T) {
	x := &numbers{}
	for run := range 60 {
		size := 1 + x.below(40)
		classes := make([]int, size)
		for e := range classes {
			classes[e] = x.below(1 + run%4)
		}
		p, m := madeOf(t, classes), modelOf(oneForm(classes))
		for step := range 60 {
			what := fmt.Sprint("the run ", run, ", the step ", step)
			for range x.below(8) {
				marks(t, what, p, m, x.below(size))
			}
			before, blocks := slices.Clone(m.block), p.Blocks()
			agree(t, what, p, m)
			splits(t, what, p, m, x.below(blocks))
			agree(t, what+", split", p, m)
			if p.Blocks() > blocks+1 {
				t.Errorf("%s: %d blocks of %d", what, p.Blocks(), blocks)
			}
			for e, b := range before {
				if now, _ := p.Block(e); now != b && now != blocks {
					t.Errorf("%s: %d went from %d to %d", what, e, b, now)
				}
			}
		}
	}
}

func TestP804DownToSingles(t *testing.T) {
	p := made(t, api.MaxStates)
	for e := api.MaxStates - 1; e > 0; e-- {
		if is, err := p.Mark(e); !is || err != nil {
			t.Fatal(e, is, err)
		}
		b, err := p.Block(e)
		if err != nil {
			t.Fatal(err)
		}
		number, is, err := p.Split(b)
		if number != api.MaxStates-e || !is || err != nil {
			t.Fatalf("%d: %d, %v, %v", e, number, is, err)
		}
	}
	if p.Blocks() != api.MaxStates {
		t.Fatalf("%d blocks", p.Blocks())
	}
	for e, class := range p.Classes() {
		if e != class {
			t.Fatalf("the class of %d: %d", e, class)
		}
	}
	for b := range api.MaxStates {
		if is, err := p.Mark(b); !is || err != nil {
			t.Fatal(b, is, err)
		}
		of, _ := p.Block(b)
		if number, is, err := p.Split(of); number != 0 || is || err != nil {
			t.Fatalf("a block of one is split: %d, %v, %v", number, is, err)
		}
	}
	refuses(t, "singles", p)
}

func TestP804TwoPartitions(t *testing.T) {
	p, q := made(t, 4), made(t, 4)
	m, n := modelOf(make([]int, 4)), modelOf(make([]int, 4))
	marks(t, "the one", p, m, 2)
	marks(t, "the other", q, n, 0, 1, 3)
	splits(t, "the one", p, m, 0)
	agree(t, "the other, unsplit", q, n)
	splits(t, "the other", q, n, 0)
	agree(t, "the one", p, m)
	agree(t, "the other", q, n)
}
