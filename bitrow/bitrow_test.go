package bitrow_test

import (
	"fmt"
	"slices"
	"testing"

	"semblance/bitrow"
)

// bounds stand on both sides of where words end.
var bounds = []int{0, 1, 2, 63, 64, 65, 127, 128, 129, 300}

// set is a row and, number by number, what is to be in it.
type set struct {
	row bitrow.Row
	has []bool
}

// multiples makes the set of every so many numbers, from one on.
func multiples(bound, from, every int) set {
	s := set{bitrow.New(bound), make([]bool, bound)}
	for n := from; n < bound; n += every {
		s.row.Add(n)
		s.has[n] = true
	}
	return s
}

// sets tells several sets of numbers below a bound.
func sets(bound int) []set {
	all := []set{multiples(bound, bound, 1), multiples(bound, 0, 1)}
	for from := range 3 {
		all = append(all, multiples(bound, from, 2), multiples(bound, from, 5), multiples(bound, from*31, 64))
	}
	for _, only := range []int{0, 63, 64, bound - 1} {
		if only >= 0 {
			all = append(all, multiples(bound, only, 1000))
		}
	}
	return all
}

// where tells the numbers of which something holds.
func where(bound int, holds func(n int) bool) []int {
	var list []int
	for n := range bound {
		if holds(n) {
			list = append(list, n)
		}
	}
	return list
}

// equal fails, unless a row has just these numbers.
func equal(t *testing.T, what string, got bitrow.Row, want []int) {
	t.Helper()
	if list := slices.Collect(got.All()); !slices.Equal(list, want) {
		t.Errorf("%s: %v, not %v", what, list, want)
	}
}

func TestOneSet(t *testing.T) {
	for _, bound := range bounds {
		for i, s := range sets(bound) {
			what := fmt.Sprint("the set ", i, " below ", bound)
			want := where(bound, func(n int) bool { return s.has[n] })
			equal(t, what, s.row, want)
			if s.row.Size() != len(want) || s.row.IsEmpty() != (len(want) == 0) {
				t.Errorf("%s: the size %d, empty %v", what, s.row.Size(), s.row.IsEmpty())
			}
			for n, has := range s.has {
				if s.row.Has(n) != has {
					t.Errorf("%s: Has(%d)", what, n)
				}
			}
		}
	}
}

func TestTwoSets(t *testing.T) {
	for _, bound := range bounds {
		for i, a := range sets(bound) {
			for j, b := range sets(bound) {
				what := fmt.Sprint("the sets ", i, " and ", j, " below ", bound)
				both := where(bound, func(n int) bool { return a.has[n] && b.has[n] })
				rest := where(bound, func(n int) bool { return a.has[n] && !b.has[n] })
				in, out := a.row.Parted(b.row)
				equal(t, what+": in", in, both)
				equal(t, what+": out", out, rest)
				if a.row.Meets(b.row) != (len(both) > 0) || a.row.IsWithin(b.row) != (len(rest) == 0) {
					t.Errorf("%s: Meets %v, IsWithin %v", what, a.row.Meets(b.row), a.row.IsWithin(b.row))
				}
				equal(t, what+": b", b.row, where(bound, func(n int) bool { return b.has[n] }))
				// What was parted are new sets.
				in.Join(out)
				in.Join(b.row)
				equal(t, what+": a", a.row, where(bound, func(n int) bool { return a.has[n] }))
				equal(t, what+": joined", in, where(bound, func(n int) bool { return a.has[n] || b.has[n] }))
			}
		}
	}
}

func TestAllIsLeft(t *testing.T) {
	row := multiples(200, 3, 50).row
	for last := range row.All() {
		if last > 53 {
			t.Errorf("%d, behind a break", last)
		}
		if last == 53 {
			break
		}
	}
}

func TestSeveral(t *testing.T) {
	for _, bound := range bounds {
		rows := bitrow.Several(5, bound)
		for i, row := range rows {
			equal(t, "new", row, nil)
			for n := i; n < bound; n += 5 {
				row.Add(n)
			}
			_ = append(row, 1<<64-1)
		}
		for i, row := range rows {
			equal(t, fmt.Sprint("the row ", i), row, where(bound, func(n int) bool { return n%5 == i }))
		}
	}
	if rows := bitrow.Several(0, 300); len(rows) != 0 {
		t.Errorf("none of 300: %d", len(rows))
	}
}

func TestClose(t *testing.T) {
	for _, bound := range bounds {
		for _, every := range []int{0, 1, 2, 3, 7, 31, 64} {
			// Each number leads to that so far behind it, some to one so far ahead, and few to themselves.
			leads := func(from, to int) bool {
				return to == from+every && from%5 > 0 || to == from-2*every && from%11 == 0
			}
			rows := bitrow.Several(bound, bound)
			for from, row := range rows {
				for to := range bound {
					if leads(from, to) {
						row.Add(to)
					}
				}
			}
			bitrow.Close(rows)
			for from, row := range rows {
				there, work := make([]bool, bound), []int{from}
				for len(work) > 0 {
					at := work[0]
					work = work[1:]
					for to := range bound {
						if leads(at, to) && !there[to] {
							there[to] = true
							work = append(work, to)
						}
					}
				}
				equal(t, fmt.Sprint("below ", bound, " by ", every, " from ", from), row, where(bound, func(n int) bool { return there[n] }))
			}
		}
	}
}
