package normal_test

import (
	"strconv"
	"strings"

	"semblance/api"
)

// tree is a term as the words have it: its parts stand in it.
type tree struct {
	kind, label, number int
	parts               []*tree
	names               []int
	pairs               []api.Pair
}

var nothing = &tree{kind: api.TermNil}

// order tells the order of two trees as P1801 has it.
func order(x, y *tree) int {
	if x.kind != y.kind {
		return sign(x.kind - y.kind)
	}
	if x.label != y.label {
		return sign(x.label - y.label)
	}
	if x.number != y.number {
		return sign(x.number - y.number)
	}
	for i, part := range x.parts {
		if o := order(part, y.parts[i]); o != 0 {
			return o
		}
	}
	if o := lesser(x.names, y.names); o != 0 {
		return o
	}
	return lesser(flat(x.pairs), flat(y.pairs))
}

func sign(n int) int {
	switch {
	case n < 0:
		return -1
	case n > 0:
		return 1
	}
	return 0
}

// lesser tells the order of two lists: by the first that is unlike; a list that ends there comes first.
func lesser(x, y []int) int {
	for i := 0; i < len(x) || i < len(y); i++ {
		switch {
		case i == len(x):
			return -1
		case i == len(y):
			return 1
		case x[i] != y[i]:
			return sign(x[i] - y[i])
		}
	}
	return 0
}

// flat tells the numbers of pairs, Old then New.
func flat(pairs []api.Pair) []int {
	var l []int
	for _, p := range pairs {
		l = append(l, p.Old, p.New)
	}
	return l
}

// formOf tells the normal form of a tree as P1802 has it; false, if a list is too long.
func formOf(x *tree) (*tree, bool) {
	var parts []*tree
	for _, part := range x.parts {
		p, ok := formOf(part)
		if !ok {
			return nil, false
		}
		parts = append(parts, p)
	}
	form := &tree{kind: x.kind, label: x.label, number: x.number, parts: parts, names: x.names}
	for _, p := range x.pairs {
		if p.New != p.Old {
			form.pairs = append(form.pairs, p)
		}
	}
	switch x.kind {
	case api.TermSum, api.TermPar:
		list := placed(opened(form, x.kind), x.kind == api.TermSum)
		return grouped(list, x.kind), len(list) <= api.MaxEdges
	case api.TermRes, api.TermRen:
		if parts[0].kind == api.TermNil || len(form.names)+len(form.pairs) == 0 {
			return parts[0], true
		}
	}
	return form, true
}

// opened tells the list of a sum or a parallel, without 0.
func opened(x *tree, kind int) []*tree {
	switch x.kind {
	case api.TermNil:
		return nil
	case kind:
		return append(opened(x.parts[0], kind), opened(x.parts[1], kind)...)
	}
	return []*tree{x}
}

// placed tells a list in its order, with once what stands there already, or as often as it stands there.
func placed(list []*tree, once bool) []*tree {
	var out []*tree
	for _, x := range list {
		at, there := 0, false
		for at < len(out) && order(out[at], x) <= 0 {
			there = there || order(out[at], x) == 0
			at++
		}
		if !there || !once {
			out = append(out[:at], append([]*tree{x}, out[at:]...)...)
		}
	}
	return out
}

// grouped tells the sums, or the parallels, of a list, grouped to the left.
func grouped(list []*tree, kind int) *tree {
	if len(list) == 0 {
		return nothing
	}
	whole := list[0]
	for _, x := range list[1:] {
		whole = &tree{kind: kind, parts: []*tree{whole, x}}
	}
	return whole
}

// shown tells a tree as a text of its own, unlike for unlike trees.
func (x *tree) shown() string {
	var out strings.Builder
	out.WriteString("(" + strconv.Itoa(x.kind))
	for _, n := range append([]int{x.label, x.number}, x.names...) {
		out.WriteString(" " + strconv.Itoa(n))
	}
	for _, p := range x.pairs {
		out.WriteString(" " + strconv.Itoa(p.New) + "/" + strconv.Itoa(p.Old))
	}
	for _, part := range x.parts {
		out.WriteString(part.shown())
	}
	return out.String() + ")"
}
