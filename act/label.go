package act

import (
	"slices"

	"semblance/api"
)

// isName tells whether a number may be that of a name.
func isName(name int) bool { return 0 <= name && name < api.MaxNames }

// Label tells the label of a name.
func Label(name int, co bool) int {
	switch {
	case !isName(name):
		return api.Tau
	case co:
		return 2*name + 2
	}
	return 2*name + 1
}

// NameOf tells a label's name, whether it is a co-name, and whether it has one.
func NameOf(label int) (int, bool, bool) {
	name, co, named := 0, false, false
	switch {
	case label <= api.Tau, label >= api.MaxLabels:
	case label%2 == 0:
		co = true
		fallthrough
	default:
		name, named = (label-1)/2, true
	}
	return name, co, named
}

// Co tells the co-label.
func Co(label int) int {
	name, co, named := NameOf(label)
	if !named {
		return api.Tau
	}
	return Label(name, !co)
}

// Rising tells whether these are names, rising.
func Rising(names []int) bool {
	last := -1
	for _, name := range names {
		if name <= last || !isName(name) {
			return false
		}
		last = name
	}
	return true
}

// In tells whether a label's name is among names.
func In(names []int, label int) bool {
	name, _, named := NameOf(label)
	return named && slices.Contains(names, name)
}

// Pairs tells whether these are a renaming.
func Pairs(l []api.Pair) bool {
	last := -1
	for _, pair := range l {
		if pair.Old <= last || !isName(pair.Old) || !isName(pair.New) {
			return false
		}
		last = pair.Old
	}
	return true
}

// Rename tells what a renaming makes of a label.
func Rename(l []api.Pair, label int) int {
	name, co, named := NameOf(label)
	if !named {
		return label
	}
	i := slices.IndexFunc(l, func(pair api.Pair) bool { return pair.Old == name })
	if i < 0 || !isName(l[i].New) {
		return label
	}
	return Label(l[i].New, co)
}
