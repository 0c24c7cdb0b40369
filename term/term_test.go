package term_test

import (
	"errors"
	"fmt"
	"reflect"
	"slices"
	"testing"

	"semblance/act"
	"semblance/api"
	"semblance/term"
)

const (
	least    = -1 << 63
	greatest = 1<<63 - 1
)

// refused fails, unless err is a fault of term that wraps just want, without a place, and the result beside it is zero.
func refused(t *testing.T, what string, result any, err, want error) {
	t.Helper()
	if !reflect.ValueOf(result).IsZero() {
		t.Errorf("%s: %v beside an error", what, result)
	}
	f, ok := err.(*api.Fault)
	if !ok {
		t.Errorf("%s: %v, not a *api.Fault", what, err)
		return
	}
	if *f != (api.Fault{Layer: "term", Err: want}) {
		t.Errorf("%s: %+v, not %v", what, *f, want)
	}
	if !errors.Is(err, want) {
		t.Errorf("%s: errors.Is does not find %v", what, want)
	}
}

// answered fails, unless there is no error and the result is want.
func answered(t *testing.T, what string, result any, err error, want any) {
	t.Helper()
	if err != nil || !reflect.DeepEqual(result, want) {
		t.Errorf("%s: %.200v, %v, not %.200v", what, result, err, want)
	}
}

// put puts a term that may be put; its number.
func put(t *testing.T, s *term.Store, x api.Term) int {
	t.Helper()
	id, err := s.Put(x)
	if err != nil {
		t.Fatalf("Put(%v): %v", x, err)
	}
	return id
}

// alike tells whether two terms are the same in all fields; lists that are nil and empty are one.
func alike(x, y api.Term) bool {
	return x.Kind == y.Kind && x.Label == y.Label && x.A == y.A && x.B == y.B && slices.Equal(x.Names, y.Names) && slices.Equal(x.Pairs, y.Pairs)
}

// holds fails, unless the store has just these terms.
func holds(t *testing.T, what string, s *term.Store, want ...api.Term) {
	t.Helper()
	if s.Size() != len(want) {
		t.Errorf("%s: Size %d, not %d", what, s.Size(), len(want))
	}
	for id, x := range want {
		got, err := s.Get(id)
		if err != nil || !alike(got, x) {
			t.Errorf("%s: Get(%d): %v, %v, not %v", what, id, got, err, x)
		}
	}
	for _, id := range []int{-1, len(want), len(want) + 1, least, greatest} {
		got, err := s.Get(id)
		refused(t, fmt.Sprint(what, ": Get ", id), got, err, api.ErrIndex)
	}
}

// rising tells the names from 0 on, n of them.
func rising(n int) []int {
	var l []int
	for i := range n {
		l = append(l, i)
	}
	return l
}

// swapped tells pairs of the Olds from 0 on, n of them, each New counted from the other end.
func swapped(n int) []api.Pair {
	var l []api.Pair
	for i := range n {
		l = append(l, api.Pair{Old: i, New: n - 1 - i})
	}
	return l
}

// allKinds are terms that may be put one behind the other into a new store, behind its 0: no two of them are the same.
func allKinds() []api.Term {
	return []api.Term{
		{Kind: api.TermPrefix}, {Kind: api.TermPrefix, Label: 1}, {Kind: api.TermPrefix, Label: 1, A: 1}, {Kind: api.TermPrefix, Label: api.MaxLabels - 1, A: 3},
		{Kind: api.TermSum}, {Kind: api.TermSum, A: 1}, {Kind: api.TermSum, B: 1}, {Kind: api.TermSum, A: 7, B: 7},
		{Kind: api.TermPar}, {Kind: api.TermPar, A: 1}, {Kind: api.TermPar, B: 1}, {Kind: api.TermPar, A: 11, B: 7},
		{Kind: api.TermRes}, {Kind: api.TermRes, A: 1}, {Kind: api.TermRes, Names: []int{0}}, {Kind: api.TermRes, Names: []int{1}}, {Kind: api.TermRes, Names: []int{0, 1}}, {Kind: api.TermRes, A: 2, Names: rising(api.MaxNames)}, {Kind: api.TermRes, Names: []int{api.MaxNames - 1}},
		{Kind: api.TermRen}, {Kind: api.TermRen, A: 1}, {Kind: api.TermRen, Pairs: []api.Pair{{}}}, {Kind: api.TermRen, Pairs: []api.Pair{{New: 1}}}, {Kind: api.TermRen, Pairs: []api.Pair{{Old: 1}}}, {Kind: api.TermRen, Pairs: []api.Pair{{New: 1}, {Old: 1}}}, {Kind: api.TermRen, A: 4, Pairs: swapped(api.MaxNames)}, {Kind: api.TermRen, Pairs: []api.Pair{{Old: 1, New: 2}}},
		{Kind: api.TermConst}, {Kind: api.TermConst, A: 1}, {Kind: api.TermConst, A: api.MaxDefs - 1},
	}
}

func TestP301Numbers(t *testing.T) {
	s := term.New()
	zero := api.Term{Kind: api.TermNil}
	holds(t, "New", s, zero)
	if s.Nil() != 0 {
		t.Errorf("Nil: %d", s.Nil())
	}
	want := []api.Term{zero}
	for _, x := range allKinds() {
		id, err := s.Put(x)
		answered(t, fmt.Sprint("Put ", x), id, err, len(want))
		want = append(want, x)
	}
	holds(t, "all kinds", s, want...)
	for i, x := range want {
		id, err := s.Put(x)
		answered(t, fmt.Sprint("Put again ", x), id, err, i)
		if len(x.Names)+len(x.Pairs) == 0 {
			x.Names, x.Pairs = []int{}, []api.Pair{}
			id, err = s.Put(x)
			answered(t, "Put with empty lists", id, err, i)
		}
	}
	holds(t, "all kinds twice", s, want...)
	if s.Nil() != 0 {
		t.Errorf("Nil: %d", s.Nil())
	}
}

// wrong are terms that may not be put where the terms 0 to last are.
func wrong(last int) []api.Term {
	names, pairs := []int{1}, []api.Pair{{Old: 1, New: 2}}
	l := []api.Term{
		{}, {Kind: -1}, {Kind: 8}, {Kind: least}, {Kind: greatest}, {A: 1},
		{Kind: api.TermNil, Label: 1}, {Kind: api.TermNil, A: 1}, {Kind: api.TermNil, A: -1}, {Kind: api.TermNil, B: 1}, {Kind: api.TermNil, Names: names}, {Kind: api.TermNil, Pairs: pairs},
		{Kind: api.TermPrefix, Label: -1}, {Kind: api.TermPrefix, Label: api.MaxLabels}, {Kind: api.TermPrefix, Label: least}, {Kind: api.TermPrefix, Label: greatest}, {Kind: api.TermPrefix, B: 1}, {Kind: api.TermPrefix, Names: names}, {Kind: api.TermPrefix, Pairs: pairs},
		{Kind: api.TermRes, Label: 1}, {Kind: api.TermRes, B: 1}, {Kind: api.TermRes, Pairs: pairs}, {Kind: api.TermRes, Names: names, Pairs: pairs},
		{Kind: api.TermRes, Names: []int{2, 1}}, {Kind: api.TermRes, Names: []int{1, 1}}, {Kind: api.TermRes, Names: []int{-1}}, {Kind: api.TermRes, Names: []int{api.MaxNames}}, {Kind: api.TermRes, Names: []int{256}}, {Kind: api.TermRes, Names: rising(api.MaxNames + 1)},
		{Kind: api.TermRen, Label: 1}, {Kind: api.TermRen, B: 1}, {Kind: api.TermRen, Names: names}, {Kind: api.TermRen, Names: names, Pairs: pairs},
		{Kind: api.TermRen, Pairs: []api.Pair{{Old: 2}, {Old: 1}}}, {Kind: api.TermRen, Pairs: []api.Pair{{Old: 1}, {Old: 1, New: 1}}}, {Kind: api.TermRen, Pairs: []api.Pair{{Old: -1}}}, {Kind: api.TermRen, Pairs: []api.Pair{{New: -1}}}, {Kind: api.TermRen, Pairs: []api.Pair{{Old: api.MaxNames}}}, {Kind: api.TermRen, Pairs: []api.Pair{{New: api.MaxNames}}}, {Kind: api.TermRen, Pairs: []api.Pair{{New: 257}}},
		{Kind: api.TermConst, A: -1}, {Kind: api.TermConst, A: api.MaxDefs}, {Kind: api.TermConst, A: least}, {Kind: api.TermConst, A: greatest}, {Kind: api.TermConst, Label: 1}, {Kind: api.TermConst, B: 1}, {Kind: api.TermConst, Names: names}, {Kind: api.TermConst, Pairs: pairs},
	}
	for _, kind := range []int{api.TermSum, api.TermPar} {
		l = append(l, api.Term{Kind: kind, Label: 1}, api.Term{Kind: kind, Names: names}, api.Term{Kind: kind, Pairs: pairs})
		for _, part := range []int{-1, last + 1, least, greatest} {
			l = append(l, api.Term{Kind: kind, B: part})
		}
	}
	for _, kind := range []int{api.TermPrefix, api.TermSum, api.TermPar, api.TermRes, api.TermRen} {
		for _, part := range []int{-1, last + 1, least, greatest} {
			l = append(l, api.Term{Kind: kind, A: part})
		}
	}
	return l
}

func TestP301WhatMayNotBePut(t *testing.T) {
	s := term.New()
	put(t, s, api.Term{Kind: api.TermPrefix, Label: 1})
	for _, x := range wrong(1) {
		id, err := s.Put(x)
		refused(t, fmt.Sprint("Put ", x), id, err, api.ErrArg)
	}
	holds(t, "after what was refused", s, api.Term{Kind: api.TermNil}, api.Term{Kind: api.TermPrefix, Label: 1})
	id, err := s.Put(api.Term{Kind: api.TermSum, A: 1, B: 1})
	answered(t, "the next one", id, err, 2)
}

func TestP301KeepsNothingOfWhatIsPut(t *testing.T) {
	s := term.New()
	names, pairs := []int{1, 3, 7}, []api.Pair{{Old: 1, New: 5}, {Old: 2, New: 6}}
	res, ren := put(t, s, api.Term{Kind: api.TermRes, Names: names[:2]}), put(t, s, api.Term{Kind: api.TermRen, Pairs: pairs[:1]})
	if !slices.Equal(names, []int{1, 3, 7}) || !slices.Equal(pairs, []api.Pair{{Old: 1, New: 5}, {Old: 2, New: 6}}) {
		t.Errorf("changed: %v, %v", names, pairs)
	}
	names[0], pairs[0].New = 0, 9
	holds(t, "the lists changed", s, api.Term{Kind: api.TermNil}, api.Term{Kind: api.TermRes, Names: []int{1, 3}}, api.Term{Kind: api.TermRen, Pairs: []api.Pair{{Old: 1, New: 5}}})
	id, err := s.Put(api.Term{Kind: api.TermRes, Names: []int{1, 3}})
	answered(t, "the restriction again", id, err, res)
	id, err = s.Put(api.Term{Kind: api.TermRen, Pairs: []api.Pair{{Old: 1, New: 5}}})
	answered(t, "the renaming again", id, err, ren)
}

func TestP302GetIsNew(t *testing.T) {
	s := term.New()
	res := put(t, s, api.Term{Kind: api.TermRes, Names: []int{1, 3}})
	ren := put(t, s, api.Term{Kind: api.TermRen, Pairs: []api.Pair{{Old: 1, New: 5}}})
	x, _ := s.Get(res)
	y, _ := s.Get(ren)
	x.Names[0], y.Pairs[0].New = 0, 9
	_ = append(x.Names, 5)
	holds(t, "what was got changed", s, api.Term{Kind: api.TermNil}, api.Term{Kind: api.TermRes, Names: []int{1, 3}}, api.Term{Kind: api.TermRen, Pairs: []api.Pair{{Old: 1, New: 5}}})
}

func TestP302Zero(t *testing.T) {
	var s, o term.Store
	holds(t, "zero", &s)
	for _, kind := range []int{api.TermPrefix, api.TermSum, api.TermPar, api.TermRes, api.TermRen} {
		id, err := s.Put(api.Term{Kind: kind})
		refused(t, "a part that is not there", id, err, api.ErrArg)
	}
	holds(t, "still zero", &s)
	if s.Nil() != 0 {
		t.Errorf("Nil: %d", s.Nil())
	}
	text, err := s.Text(0, act.New(), nil)
	refused(t, "Text", text, err, api.ErrIndex)
	n, err := s.Weight(0)
	refused(t, "Weight", n, err, api.ErrIndex)
	l, err := s.Consts(0)
	refused(t, "Consts", l, err, api.ErrIndex)
	is, err := s.Same(0, &o, 0)
	refused(t, "Same", is, err, api.ErrIndex)
	is, err = term.New().Same(0, &s, 0)
	refused(t, "Same as one of zero", is, err, api.ErrIndex)
	id, err := s.Put(api.Term{Kind: api.TermNil})
	answered(t, "its first one", id, err, 0)
	holds(t, "no longer zero", &s, api.Term{Kind: api.TermNil})
	is, err = s.Same(0, term.New(), 0)
	answered(t, "Same", is, err, true)
	id, err = o.Put(api.Term{Kind: api.TermConst, A: 3})
	answered(t, "a constant needs no other term", id, err, 0)
}

func TestP302Nil(t *testing.T) {
	var none *term.Store
	if none.Size() != 0 || none.Nil() != 0 {
		t.Errorf("of nil: %d, %d", none.Size(), none.Nil())
	}
	for _, i := range []int{-1, 0, 1} {
		id, err := none.Put(api.Term{Kind: api.TermNil, A: i})
		refused(t, "Put", id, err, api.ErrArg)
		x, err := none.Get(i)
		refused(t, "Get", x, err, api.ErrArg)
		text, err := none.Text(i, nil, nil)
		refused(t, "Text", text, err, api.ErrArg)
		n, err := none.Weight(i)
		refused(t, "Weight", n, err, api.ErrArg)
		l, err := none.Consts(i)
		refused(t, "Consts", l, err, api.ErrArg)
		is, err := none.Same(i, term.New(), 0)
		refused(t, "Same", is, err, api.ErrArg)
		is, err = none.Same(i, none, 0)
		refused(t, "Same of two", is, err, api.ErrArg)
	}
}

func TestP302ErrorsAreNew(t *testing.T) {
	s := term.New()
	_, one := s.Get(1)
	one.(*api.Fault).Layer = "x"
	x, err := s.Get(1)
	refused(t, "Get again", x, err, api.ErrIndex)
}

// doubled puts sums of a term with itself, one in the other, n times.
func doubled(t *testing.T, s *term.Store, id, n int) int {
	for range n {
		id = put(t, s, api.Term{Kind: api.TermSum, A: id, B: id})
	}
	return id
}

func TestP304Weight(t *testing.T) {
	s := term.New()
	weighs := func(what string, id, want int) {
		t.Helper()
		n, err := s.Weight(id)
		answered(t, what, n, err, want)
	}
	weighs("0", 0, 1)
	constant := put(t, s, api.Term{Kind: api.TermConst, A: 9})
	weighs("a constant", constant, 1)
	prefix := put(t, s, api.Term{Kind: api.TermPrefix, A: constant})
	weighs("a prefix", prefix, 2)
	weighs("a sum", put(t, s, api.Term{Kind: api.TermSum, A: prefix, B: constant}), 4)
	weighs("parallel", put(t, s, api.Term{Kind: api.TermPar, A: prefix, B: prefix}), 5)
	weighs("a restriction", put(t, s, api.Term{Kind: api.TermRes, A: prefix, Names: rising(9)}), 3)
	weighs("a renaming", put(t, s, api.Term{Kind: api.TermRen, A: prefix, Pairs: swapped(9)}), 3)
	id := doubled(t, s, 0, 15)
	weighs("doubled", id, api.MaxText-1)
	for i, want := range []int{api.MaxText, api.MaxText + 1, api.MaxText + 1, api.MaxText + 1} {
		id = put(t, s, api.Term{Kind: api.TermPrefix, Label: i, A: id})
		weighs("near the most", id, want)
	}
	weighs("doubled often", doubled(t, s, 0, 500), api.MaxText+1)
	for _, id := range []int{-1, s.Size(), least, greatest} {
		n, err := s.Weight(id)
		refused(t, fmt.Sprint("Weight ", id), n, err, api.ErrIndex)
		l, err := s.Consts(id)
		refused(t, fmt.Sprint("Consts ", id), l, err, api.ErrIndex)
	}
}

func TestP304Consts(t *testing.T) {
	s := term.New()
	has := func(what string, id int, want ...int) {
		t.Helper()
		l, err := s.Consts(id)
		if err != nil || !slices.Equal(l, want) {
			t.Errorf("%s: %v, %v, not %v", what, l, err, want)
		}
	}
	has("0", 0)
	seven := put(t, s, api.Term{Kind: api.TermConst, A: 7})
	first := put(t, s, api.Term{Kind: api.TermConst})
	last := put(t, s, api.Term{Kind: api.TermConst, A: api.MaxDefs - 1})
	four := put(t, s, api.Term{Kind: api.TermConst, A: 4})
	has("a constant", seven, 7)
	one := put(t, s, api.Term{Kind: api.TermPar, A: last, B: put(t, s, api.Term{Kind: api.TermPrefix, Label: 3, A: seven})})
	has("parallel", one, 7, api.MaxDefs-1)
	two := put(t, s, api.Term{Kind: api.TermSum, A: one, B: put(t, s, api.Term{Kind: api.TermRes, A: first, Names: []int{5}})})
	has("a sum", two, 0, 7, api.MaxDefs-1)
	three := put(t, s, api.Term{Kind: api.TermRen, A: put(t, s, api.Term{Kind: api.TermSum, A: two, B: one}), Pairs: []api.Pair{{Old: 5, New: 6}}})
	has("a renaming", three, 0, 7, api.MaxDefs-1)
	has("with all", put(t, s, api.Term{Kind: api.TermSum, A: four, B: three}), 0, 4, 7, api.MaxDefs-1)
	has("a part", put(t, s, api.Term{Kind: api.TermSum, A: four}), 4)
	has("doubled often", doubled(t, s, one, 500), 7, api.MaxDefs-1)
	l, _ := s.Consts(one)
	l[0] = 1
	has("again", one, 7, api.MaxDefs-1)
}

// copied puts a term of one store into another one, part by part, the last part first; its number there.
func copied(t *testing.T, s *term.Store, id int, o *term.Store) int {
	x, err := s.Get(id)
	if err != nil {
		t.Fatal(err)
	}
	switch x.Kind {
	case api.TermSum, api.TermPar:
		x.B = copied(t, s, x.B, o)
		x.A = copied(t, s, x.A, o)
	case api.TermPrefix, api.TermRes, api.TermRen:
		x.A = copied(t, s, x.A, o)
	}
	return put(t, o, x)
}

func TestP305Same(t *testing.T) {
	s := term.New()
	for _, x := range allKinds() {
		put(t, s, x)
	}
	// The other one has further terms, and numbers its terms in another order.
	o, where := &term.Store{}, map[int]int{}
	put(t, o, api.Term{Kind: api.TermConst, A: 77})
	for id := s.Size() - 1; id >= 0; id-- {
		where[id] = copied(t, s, id, o)
	}
	for id := range s.Size() {
		for other := range o.Size() {
			is, err := s.Same(id, o, other)
			answered(t, fmt.Sprint("Same ", id, " ", other), is, err, where[id] == other)
			is, err = o.Same(other, s, id)
			answered(t, fmt.Sprint("Same the other way ", id, " ", other), is, err, where[id] == other)
		}
		for other := range s.Size() {
			is, err := s.Same(id, s, other)
			answered(t, fmt.Sprint("Same in one store ", id, " ", other), is, err, id == other)
		}
	}
	if s.Size() != len(allKinds())+1 {
		t.Errorf("Size %d", s.Size())
	}
}

func TestP305DeepInside(t *testing.T) {
	s, o := term.New(), term.New()
	put(t, o, api.Term{Kind: api.TermConst, A: 5})
	id, other := doubled(t, s, 0, 500), doubled(t, o, 0, 500)
	is, err := s.Same(id, o, other)
	answered(t, "doubled often", is, err, true)
	is, err = s.Same(id, o, other-1)
	answered(t, "doubled once less", is, err, false)
	id, other = doubled(t, s, put(t, s, api.Term{Kind: api.TermConst, A: 4}), 500), doubled(t, o, 1, 500)
	is, err = s.Same(id, o, other)
	answered(t, "a constant deep inside", is, err, false)
}

func TestP305Errors(t *testing.T) {
	s, o := term.New(), term.New()
	put(t, s, api.Term{Kind: api.TermPrefix})
	for _, far := range []int{-1, 2, least, greatest} {
		for _, store := range []*term.Store{s, o, nil, {}} {
			is, err := s.Same(far, store, 0)
			refused(t, "no term of the first", is, err, api.ErrIndex)
		}
		is, err := s.Same(1, nil, far)
		refused(t, "no other store", is, err, api.ErrArg)
		is, err = s.Same(1, o, far)
		refused(t, "no term of the other", is, err, api.ErrIndex)
	}
	is, err := s.Same(0, o, 1)
	refused(t, "the first has it", is, err, api.ErrIndex)
}

func TestP306Consequence(t *testing.T) {
	s := term.New()
	for _, x := range allKinds() {
		id := put(t, s, x)
		got, err := s.Get(id)
		if err != nil || !alike(got, x) {
			t.Errorf("Get of Put: %v, %v, not %v", got, err, x)
		}
		if x.Kind != api.TermConst && (x.A >= id || x.B >= id) {
			t.Errorf("%d has a part %v", id, x)
		}
	}
	// A term can't be a part of itself, nor of one ahead of it.
	for _, part := range []int{s.Size(), s.Size() + 1} {
		id, err := s.Put(api.Term{Kind: api.TermSum, A: part, B: 0})
		refused(t, "a part that is yet to come", id, err, api.ErrArg)
	}
}
