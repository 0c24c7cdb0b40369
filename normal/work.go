package normal

import (
	"maps"
	"slices"

	"semblance/api"
	"semblance/term"
)

// work brings terms to their forms.
type work struct {
	store *term.Store
	forms map[int]int // of each term that was brought to its form that form; of a form itself
}

// span is a piece of a list.
type span struct{ from, to int }

// form tells the form of a term.
func (w *work) form(id int) (int, error) {
	for _, next := range w.needed(id) {
		form, err := w.bring(next)
		if err != nil {
			return 0, err
		}
		w.forms[next], w.forms[form] = form, form
	}
	return w.forms[id], nil
}

// needed tells the terms whose forms a term's form is made of, and itself, rising: each stands behind its parts.
// A sum's part that is a sum is none of them, since it is opened with the whole; likewise with parallels.
func (w *work) needed(id int) []int {
	needed, met := map[int]struct{}{id: {}}, map[int]struct{}{id: {}}
	todo := []int{id}
	for len(todo) > 0 {
		t := get(w.store, todo[len(todo)-1])
		todo = todo[:len(todo)-1]
		for _, part := range parts(t) {
			if !isList(t.Kind) || get(w.store, part).Kind != t.Kind {
				needed[part] = struct{}{}
			}
			if _, is := met[part]; !is {
				met[part] = struct{}{}
				todo = append(todo, part)
			}
		}
	}
	return slices.Sorted(maps.Keys(needed))
}

// isList tells whether terms of that kind are lists of terms.
func isList(kind int) bool { return kind == api.TermSum || kind == api.TermPar }

// parts tells the numbers of a term's parts.
func parts(t api.Term) []int {
	switch t.Kind {
	case api.TermPrefix, api.TermRes, api.TermRen:
		return []int{t.A}
	case api.TermSum, api.TermPar:
		return []int{t.A, t.B}
	}
	return nil
}

// bring tells the form of a term; those of its parts are known.
func (w *work) bring(id int) (int, error) {
	t := get(w.store, id)
	switch t.Kind {
	case api.TermSum, api.TermPar:
		list, err := w.open(id, t.Kind)
		if err != nil {
			return 0, err
		}
		return w.join(t.Kind, list)
	case api.TermRen:
		t.Pairs = slices.DeleteFunc(t.Pairs, func(p api.Pair) bool { return p.Old == p.New })
		fallthrough
	case api.TermRes:
		if w.forms[t.A] == w.store.Nil() || len(t.Names)+len(t.Pairs) == 0 {
			return w.forms[t.A], nil
		}
		fallthrough
	case api.TermPrefix:
		t.A = w.forms[t.A]
		return w.store.Put(t)
	}
	return id, nil
}

// open tells the list of a sum or a parallel, in no order.
func (w *work) open(whole, kind int) ([]int, error) {
	var list []int
	// Each term is opened once, since a term of few terms may have very many parts: where it stands again,
	// a parallel is given the same piece again, and a sum has that already.
	given := map[int]span{}
	var open func(id int) error
	open = func(id int) error {
		var err error
		t, from := get(w.store, id), len(list)
		piece, again := given[id]
		switch {
		case again && kind == api.TermPar:
			list = append(list, list[piece.from:piece.to]...)
		case again:
		case t.Kind == kind:
			if err = open(t.A); err == nil {
				err = open(t.B)
			}
		case w.forms[id] != id:
			err = open(w.forms[id])
		case id != w.store.Nil():
			list = append(list, id)
		}
		given[id] = span{from, len(list)}
		if err == nil && len(list) > api.MaxEdges {
			err = api.ErrLong
		}
		return err
	}
	if err := open(whole); err != nil {
		return nil, err
	}
	return list, nil
}

// join makes one term of a list.
func (w *work) join(kind int, list []int) (int, error) {
	if len(list) == 0 {
		return w.store.Nil(), nil
	}
	w.sort(list)
	whole := list[0]
	for _, next := range list[1:] {
		var err error
		if whole, err = w.store.Put(api.Term{Kind: kind, A: whole, B: next}); err != nil {
			return 0, err
		}
	}
	return whole, nil
}

// sort puts a list in its order. Two terms may be unlike only very deep in them, so that it spares looking there:
// the list is put by numbers first, since what came later often stands later in the order, too, and then less is
// to be moved; and what was found of two is kept, since they may be parts of two others in the list.
func (w *work) sort(list []int) {
	slices.Sort(list)
	known := map[two]int{}
	slices.SortFunc(list, func(id, other int) int {
		sign := compare(w.store, known, id, other)
		known[two{id, other}] = sign
		return sign
	})
}
