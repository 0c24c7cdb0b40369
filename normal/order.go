package normal

import (
	"cmp"
	"slices"

	"semblance/api"
	"semblance/term"
)

// get tells a term that the store has.
func get(store *term.Store, id int) api.Term {
	t, _ := store.Get(id)
	return t
}

// two is two terms of a store.
type two struct{ id, other int }

// compare tells the order of two terms of a store, where that of some is known. A store has each term once: so parts of two numbers are unlike,
// and it goes down to the first such parts alone. It does not call itself: terms may stand very deep in one another.
func compare(store *term.Store, known map[two]int, id, other int) int {
	for id != other {
		if sign, is := known[two{id, other}]; is {
			return sign
		}
		t, o := get(store, id), get(store, other)
		switch sign := heads(t, o); {
		case sign != 0:
			return sign
		case t.A != o.A:
			id, other = t.A, o.A
		case t.B != o.B:
			id, other = t.B, o.B
		default:
			return lists(t, o)
		}
	}
	return 0
}

// heads tells the order of two terms by what stands ahead of their parts.
func heads(t, o api.Term) int {
	sign := cmp.Or(cmp.Compare(t.Kind, o.Kind), cmp.Compare(t.Label, o.Label))
	if sign == 0 && t.Kind == api.TermConst {
		return cmp.Compare(t.A, o.A)
	}
	return sign
}

// lists tells the order of two terms by what stands behind their parts.
func lists(t, o api.Term) int {
	return cmp.Or(slices.Compare(t.Names, o.Names), slices.CompareFunc(t.Pairs, o.Pairs, pairs))
}

// pairs tells the order of two pairs.
func pairs(p, q api.Pair) int {
	return cmp.Or(cmp.Compare(p.Old, q.Old), cmp.Compare(p.New, q.New))
}
