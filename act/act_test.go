package act_test

import (
	"errors"
	"fmt"
	"reflect"
	"slices"
	"strings"
	"testing"

	"semblance/act"
	"semblance/api"
	"semblance/lexis"
)

// refused fails, unless err is a fault of act that wraps just want, without a place, and the result beside it is zero.
func refused(t *testing.T, what string, result any, err, want error) {
	t.Helper()
	if !reflect.ValueOf(result).IsZero() {
		t.Errorf("%s: %v beside an error", what, result)
	}
	f, ok := err.(*api.Fault)
	if !ok {
		t.Errorf("%s: %v, not a *api.Fault", what, err)
		return
	}
	if *f != (api.Fault{Layer: "act", Err: want}) {
		t.Errorf("%s: %+v, not %v", what, *f, want)
	}
	if !errors.Is(err, want) {
		t.Errorf("%s: errors.Is does not find %v", what, want)
	}
}

// answered fails, unless there is no error and the result is want.
func answered(t *testing.T, what string, result any, err error, want any) {
	t.Helper()
	if err != nil || !reflect.DeepEqual(result, want) {
		t.Errorf("%s: %v, %v, not %v", what, result, err, want)
	}
}

// tableOf makes a table of names that it takes.
func tableOf(t *testing.T, names ...string) *act.Table {
	t.Helper()
	table := act.New()
	for i, name := range names {
		n, err := table.Add(name)
		answered(t, "Add "+name, n, err, i)
	}
	return table
}

// names tells n different names.
func names(n int) []string {
	var l []string
	for i := range n {
		l = append(l, fmt.Sprint("n", i))
	}
	return l
}

// holds fails, unless the table has just these names, by all of its calls.
func holds(t *testing.T, what string, table *act.Table, want ...string) {
	t.Helper()
	if got := table.Names(); !slices.Equal(got, want) {
		t.Errorf("%s: Names %v, not %v", what, got, want)
	}
	if got := table.Size(); got != len(want) {
		t.Errorf("%s: Size %d, not %d", what, got, len(want))
	}
	for i, name := range want {
		n, err := table.Find(name)
		answered(t, what+": Find "+name, n, err, i)
		s, err := table.Name(i)
		answered(t, what+": Name", s, err, name)
	}
	for _, i := range []int{-1, len(want), -1 << 63, 1<<63 - 1} {
		s, err := table.Name(i)
		refused(t, fmt.Sprint(what, ": Name ", i), s, err, api.ErrIndex)
	}
}

func TestP201Add(t *testing.T) {
	table := tableOf(t, "a", "b", "tau2", "taU", "x_9")
	holds(t, "five", table, "a", "b", "tau2", "taU", "x_9")
	for i, name := range []string{"a", "b", "tau2", "taU", "x_9"} {
		n, err := table.Add(name)
		answered(t, "Add again", n, err, i)
	}
	holds(t, "added again", table, "a", "b", "tau2", "taU", "x_9")
	long := strings.Repeat("a", api.MaxName)
	n, err := table.Add(long)
	answered(t, "a long name", n, err, 5)
	holds(t, "six", table, "a", "b", "tau2", "taU", "x_9", long)
}

func TestP201AddRefuses(t *testing.T) {
	table := tableOf(t, "a")
	n, err := table.Add("tau")
	refused(t, "tau", n, err, api.ErrSilent)
	for _, name := range []string{"", "P", "'a", "1", "0", "_", "a b", " a", "a ", "a\n", "a-", "\x00", "ä", "'tau", "Tau", strings.Repeat("a", api.MaxName+1)} {
		n, err := table.Add(name)
		refused(t, fmt.Sprintf("Add(%q)", name), n, err, api.ErrWord)
	}
	holds(t, "after what was refused", table, "a")
}

func TestP201AddOfEachByte(t *testing.T) {
	for b := range 256 {
		name := string([]byte{byte(b)})
		table := act.New()
		n, err := table.Add(name)
		if lexis.IsName(name) {
			answered(t, name, n, err, 0)
			holds(t, name, table, name)
		} else {
			refused(t, fmt.Sprintf("Add(%q)", name), n, err, api.ErrWord)
			holds(t, fmt.Sprintf("%q", name), table)
		}
	}
}

func TestP201Full(t *testing.T) {
	all := names(api.MaxNames)
	table := tableOf(t, all...)
	holds(t, "full", table, all...)
	n, err := table.Add("z")
	refused(t, "one more", n, err, api.ErrLong)
	n, err = table.Add("n99")
	answered(t, "one that is there", n, err, 99)
	n, err = table.Add("n0")
	answered(t, "the first one", n, err, 0)
	n, err = table.Add("tau")
	refused(t, "tau in a full one", n, err, api.ErrSilent)
	n, err = table.Add("P")
	refused(t, "no name in a full one", n, err, api.ErrWord)
	holds(t, "still full", table, all...)
}

func TestP201Find(t *testing.T) {
	table := tableOf(t, "a", "b")
	for _, name := range []string{"c", "", "tau", "'a", "A", "aa", "0"} {
		n, err := table.Find(name)
		refused(t, fmt.Sprintf("Find(%q)", name), n, err, api.ErrUnknown)
	}
	holds(t, "after Find", table, "a", "b")
}

func TestP201ZeroAndNew(t *testing.T) {
	for _, table := range []*act.Table{act.New(), {}, new(act.Table).Twin()} {
		if table == nil {
			t.Fatal("no table")
		}
		holds(t, "empty", table)
		n, err := table.Find("q")
		refused(t, "Find in an empty one", n, err, api.ErrUnknown)
		text, err := table.Text(0)
		answered(t, "Text in an empty one", text, err, "tau")
		n, err = table.Add("q")
		answered(t, "Add to an empty one", n, err, 0)
		holds(t, "not empty", table, "q")
	}
}

func TestP201Nil(t *testing.T) {
	var none *act.Table
	for _, name := range []string{"a", "tau", "P", ""} {
		n, err := none.Add(name)
		refused(t, "Add to nil", n, err, api.ErrArg)
		n, err = none.Find(name)
		refused(t, "Find in nil", n, err, api.ErrArg)
		n, err = none.Read(name)
		refused(t, "Read of nil", n, err, api.ErrArg)
	}
	for _, i := range []int{-1, 0, 1} {
		s, err := none.Name(i)
		refused(t, "Name of nil", s, err, api.ErrArg)
		s, err = none.Text(i)
		refused(t, "Text of nil", s, err, api.ErrArg)
	}
	if none.Size() != 0 || len(none.Names()) != 0 || none.Twin() != nil {
		t.Errorf("of nil: %d, %v, %v", none.Size(), none.Names(), none.Twin())
	}
}

func TestP201Twin(t *testing.T) {
	one := tableOf(t, "a", "b")
	two := one.Twin()
	holds(t, "the twin", two, "a", "b")
	n, err := two.Add("c")
	answered(t, "Add to the twin", n, err, 2)
	n, err = one.Add("d")
	answered(t, "Add to the other", n, err, 2)
	holds(t, "the one", one, "a", "b", "d")
	holds(t, "the other", two, "a", "b", "c")
	n, err = one.Find("c")
	refused(t, "what its twin has", n, err, api.ErrUnknown)
	n, err = two.Find("d")
	refused(t, "what the one has", n, err, api.ErrUnknown)
}

func TestP201NamesAreNew(t *testing.T) {
	table := tableOf(t, "a", "b")
	list := table.Names()
	list[0] = "z"
	_ = append(list, "y")
	holds(t, "a list changed", table, "a", "b")
	kept := table.Names()
	if _, err := table.Add("c"); err != nil {
		t.Fatal(err)
	}
	if !slices.Equal(kept, []string{"a", "b"}) {
		t.Errorf("a kept list: %v", kept)
	}
}

func TestP201ErrorsAreNew(t *testing.T) {
	table := act.New()
	_, one := table.Add("tau")
	_, two := table.Add("tau")
	one.(*api.Fault).Layer = "x"
	n, err := table.Add("tau")
	refused(t, "tau again", n, err, api.ErrSilent)
	refused(t, "the second", 0, two, api.ErrSilent)
}

// far are labels and names that are none.
var far = []int{-1, -2, -3, -1 << 31, -1 << 63, api.MaxLabels, api.MaxLabels + 1, 1 << 31, 1<<63 - 2, 1<<63 - 1}

func TestP202Label(t *testing.T) {
	for i := range api.MaxNames {
		if act.Label(i, false) != 2*i+1 || act.Label(i, true) != 2*i+2 {
			t.Errorf("Label(%d): %d, %d", i, act.Label(i, false), act.Label(i, true))
		}
	}
	for _, i := range append([]int{api.MaxNames, api.MaxNames + 1}, far...) {
		if act.Label(i, false) != 0 || act.Label(i, true) != 0 {
			t.Errorf("Label(%d): %d, %d, not 0", i, act.Label(i, false), act.Label(i, true))
		}
	}
}

func TestP202NameOfAndCo(t *testing.T) {
	for i := range api.MaxNames {
		for _, co := range []bool{false, true} {
			label := act.Label(i, co)
			if name, is, ok := act.NameOf(label); name != i || is != co || !ok {
				t.Errorf("NameOf(%d): %d, %v, %v", label, name, is, ok)
			}
			if got := act.Co(label); got != act.Label(i, !co) {
				t.Errorf("Co(%d): %d", label, got)
			}
		}
	}
	for _, label := range append([]int{0}, far...) {
		if name, is, ok := act.NameOf(label); name != 0 || is || ok {
			t.Errorf("NameOf(%d): %d, %v, %v, not zero", label, name, is, ok)
		}
		if got := act.Co(label); got != 0 {
			t.Errorf("Co(%d): %d, not 0", label, got)
		}
	}
}

func TestP203Text(t *testing.T) {
	table := tableOf(t, "a", "b")
	for label, want := range []string{"tau", "a", "'a", "b", "'b"} {
		text, err := table.Text(label)
		answered(t, fmt.Sprint("Text ", label), text, err, want)
		back, err := table.Read(want)
		answered(t, "Read "+want, back, err, label)
	}
	for _, label := range append([]int{5, 6, 7, 200}, far...) {
		text, err := table.Text(label)
		refused(t, fmt.Sprint("Text ", label), text, err, api.ErrIndex)
	}
	full := tableOf(t, names(api.MaxNames)...)
	text, err := full.Text(199)
	answered(t, "the last name", text, err, "n99")
	text, err = full.Text(200)
	answered(t, "the last co-name", text, err, "'n99")
	for _, label := range far {
		text, err := full.Text(label)
		refused(t, fmt.Sprint("Text of a full one ", label), text, err, api.ErrIndex)
	}
}

func TestP203Read(t *testing.T) {
	table := tableOf(t, "a", "b")
	for _, text := range []string{"", "c", "'c", "'", "''a", "'tau", "tau ", " tau", "a ", " a", "' a", "a'", "A", "Tau", "0", "aa", "a\n"} {
		n, err := table.Read(text)
		refused(t, fmt.Sprintf("Read(%q)", text), n, err, api.ErrUnknown)
	}
	holds(t, "after Read", table, "a", "b")
}

func TestP204Rising(t *testing.T) {
	for _, c := range []struct {
		names []int
		want  bool
	}{
		{nil, true}, {[]int{}, true}, {[]int{0}, true}, {[]int{99}, true}, {[]int{0, 99}, true}, {[]int{0, 1, 2}, true}, {[]int{3, 7, 50}, true},
		{[]int{-1}, false}, {[]int{100}, false}, {[]int{0, 100}, false}, {[]int{-1, 0}, false}, {[]int{1, 1}, false}, {[]int{1, 0}, false}, {[]int{0, 2, 1}, false}, {[]int{0, 1, 1}, false}, {[]int{-1 << 63}, false}, {[]int{1<<63 - 1}, false},
	} {
		if act.Rising(c.names) != c.want {
			t.Errorf("Rising(%v): not %v", c.names, c.want)
		}
		// The same Olds, with News that may stand in any order.
		var l []api.Pair
		for i, name := range c.names {
			l = append(l, api.Pair{Old: name, New: (99 - i) / 2})
		}
		if act.Pairs(l) != c.want {
			t.Errorf("Pairs(%v): not %v", l, c.want)
		}
	}
}

func TestP204Pairs(t *testing.T) {
	for _, c := range []struct {
		l    []api.Pair
		want bool
	}{
		{[]api.Pair{{Old: 0, New: 0}}, true}, {[]api.Pair{{Old: 0, New: 99}}, true}, {[]api.Pair{{Old: 0, New: 5}, {Old: 1, New: 5}}, true}, {[]api.Pair{{Old: 0, New: 5}, {Old: 1, New: 3}, {Old: 99, New: 99}}, true},
		{[]api.Pair{{Old: 0, New: 100}}, false}, {[]api.Pair{{Old: 0, New: -1}}, false}, {[]api.Pair{{Old: 0, New: 1}, {Old: 1, New: 100}}, false}, {[]api.Pair{{Old: 0, New: 1}, {Old: 1, New: -1 << 63}}, false},
	} {
		if act.Pairs(c.l) != c.want {
			t.Errorf("Pairs(%v): not %v", c.l, c.want)
		}
	}
}

func TestP204In(t *testing.T) {
	for _, c := range []struct {
		names []int
		label int
		want  bool
	}{
		{[]int{1, 3}, 3, true}, {[]int{1, 3}, 4, true}, {[]int{1, 3}, 7, true}, {[]int{1, 3}, 8, true}, {[]int{99}, 200, true}, {[]int{0}, 1, true}, {[]int{5, 0, 0}, 2, true},
		{[]int{1, 3}, 0, false}, {[]int{1, 3}, 1, false}, {[]int{1, 3}, 5, false}, {[]int{1, 3}, 9, false}, {nil, 1, false}, {[]int{0}, 0, false}, {[]int{100}, 201, false}, {[]int{100}, 202, false}, {[]int{-1}, -1, false}, {[]int{-1, 0}, -2, false}, {[]int{-1}, 0, false}, {[]int{0}, -1, false}, {[]int{0, -1}, -1 << 63, false},
	} {
		if act.In(c.names, c.label) != c.want {
			t.Errorf("In(%v, %d): not %v", c.names, c.label, c.want)
		}
	}
}

func TestP204Rename(t *testing.T) {
	l := []api.Pair{{Old: 0, New: 1}, {Old: 1, New: 0}, {Old: 4, New: 99}, {Old: 5, New: 100}, {Old: 6, New: -1}, {Old: 5, New: 7}, {Old: 0, New: 8}, {Old: 100, New: 1}, {Old: -1, New: 1}}
	for label, want := range map[int]int{0: 0, 1: 3, 2: 4, 3: 1, 4: 2, 5: 5, 6: 6, 9: 199, 10: 200, 11: 11, 12: 12, 13: 13, 14: 14, 15: 15, 199: 199, 200: 200} {
		if got := act.Rename(l, label); got != want {
			t.Errorf("Rename(%d): %d, not %d", label, got, want)
		}
		if got := act.Rename(nil, label); got != label {
			t.Errorf("Rename(%d) by nothing: %d", label, got)
		}
	}
	for _, label := range far {
		if got := act.Rename(l, label); got != label {
			t.Errorf("Rename(%d): %d", label, got)
		}
	}
}

func TestP204LeavesWhatItIsGiven(t *testing.T) {
	list, pairs := []int{3, 1, 1, 9}, []api.Pair{{Old: 3, New: 1}, {Old: 0, New: 9}, {Old: 5, New: 5}}
	act.Rising(list[:3])
	act.In(list[:3], 4)
	act.Pairs(pairs[:2])
	act.Rename(pairs[:2], 1)
	if !slices.Equal(list, []int{3, 1, 1, 9}) || !slices.Equal(pairs, []api.Pair{{Old: 3, New: 1}, {Old: 0, New: 9}, {Old: 5, New: 5}}) {
		t.Errorf("changed: %v, %v", list, pairs)
	}
}

func TestP205Consequence(t *testing.T) {
	renamings := [][]api.Pair{nil, {{Old: 0, New: 99}, {Old: 99, New: 0}}, {{Old: 3, New: 3}}, {{Old: 7, New: 100}, {Old: 8, New: -1}}}
	for old := range api.MaxNames {
		renamings = append(renamings, []api.Pair{{Old: old, New: (7*old + 3) % api.MaxNames}, {Old: old, New: 2}})
	}
	for label := range api.MaxLabels {
		if got := act.Co(act.Co(label)); got != label {
			t.Errorf("Co(Co(%d)): %d", label, got)
		}
		for _, l := range renamings {
			if got, want := act.Rename(l, act.Co(label)), act.Co(act.Rename(l, label)); got != want {
				t.Errorf("Rename(%v) of Co(%d): %d, not %d", l, label, got, want)
			}
		}
	}
}
