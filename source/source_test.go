package source_test

import (
	"errors"
	"fmt"
	"reflect"
	"slices"
	"strings"
	"testing"

	"semblance/act"
	"semblance/api"
	"semblance/source"
	"semblance/term"
)

const (
	least    = -1 << 63
	greatest = 1<<63 - 1
)

// refusedAt fails, unless err is a fault of source at that place that wraps just want, and the result beside it is zero.
func refusedAt(t *testing.T, what string, result any, err, want error, line, col int) {
	t.Helper()
	if !reflect.ValueOf(result).IsZero() {
		t.Errorf("%s: %.80v beside an error", what, result)
	}
	f, ok := err.(*api.Fault)
	if !ok {
		t.Errorf("%s: %v, not a *api.Fault", what, err)
		return
	}
	if *f != (api.Fault{Layer: "source", Line: line, Col: col, Err: want}) {
		t.Errorf("%s: %+v, not %v at %d:%d", what, *f, want, line, col)
	}
}

// refused fails, unless err is such a fault without a place.
func refused(t *testing.T, what string, result any, err, want error) {
	t.Helper()
	refusedAt(t, what, result, err, want, 0, 0)
}

// handedOn fails, unless err is a fault of source that wraps one of a lower layer, both at that place, that wraps just want.
func handedOn(t *testing.T, what string, result any, err error, lower string, want error, line, col int) {
	t.Helper()
	if !reflect.ValueOf(result).IsZero() {
		t.Errorf("%s: %.80v beside an error", what, result)
	}
	outer, ok := err.(*api.Fault)
	if !ok {
		t.Errorf("%s: %v, not a *api.Fault", what, err)
		return
	}
	inner, ok := outer.Err.(*api.Fault)
	if !ok {
		t.Errorf("%s: %v wraps no *api.Fault", what, err)
		return
	}
	if outer.Layer != "source" || outer.Line != line || outer.Col != col || *inner != (api.Fault{Layer: lower, Line: line, Col: col, Err: want}) {
		t.Errorf("%s: %+v of %+v, not %v of %s at %d:%d", what, *outer, *inner, want, lower, line, col)
	}
	if !errors.Is(err, want) {
		t.Errorf("%s: errors.Is does not find %v", what, want)
	}
}

// answered fails, unless there is no error and the result is want.
func answered(t *testing.T, what string, result any, err error, want any) {
	t.Helper()
	if err != nil || !reflect.DeepEqual(result, want) {
		t.Errorf("%s: %.200v, %v, not %.200v", what, result, err, want)
	}
}

// parsed tells the program of a text that is taken.
func parsed(t *testing.T, text string) *source.Program {
	t.Helper()
	p, err := source.Parse(text)
	if err != nil || p == nil {
		t.Fatalf("Parse(%.200q): %+v", text, err)
	}
	return p
}

// read tells the term of a text that is taken.
func read(t *testing.T, p *source.Program, text string) int {
	t.Helper()
	id, err := p.Term(text)
	if err != nil {
		t.Fatalf("Term(%.200q): %+v", text, err)
	}
	return id
}

// tree tells a term with all its parts in brackets, and names and constants by their names.
func tree(t *testing.T, p *source.Program, id int) string {
	t.Helper()
	x, err := p.Store().Get(id)
	if err != nil {
		t.Fatal(err)
	}
	name := func(i int) string { name, _ := p.Names().Name(i); return name }
	switch x.Kind {
	case api.TermPrefix:
		label, _ := p.Names().Text(x.Label)
		return "(" + label + "." + tree(t, p, x.A) + ")"
	case api.TermSum:
		return "(" + tree(t, p, x.A) + "+" + tree(t, p, x.B) + ")"
	case api.TermPar:
		return "(" + tree(t, p, x.A) + "|" + tree(t, p, x.B) + ")"
	case api.TermRes:
		var l []string
		for _, i := range x.Names {
			l = append(l, name(i))
		}
		return "(" + tree(t, p, x.A) + `\{` + strings.Join(l, ",") + "})"
	case api.TermRen:
		var l []string
		for _, pair := range x.Pairs {
			l = append(l, name(pair.New)+"/"+name(pair.Old))
		}
		return "(" + tree(t, p, x.A) + "[" + strings.Join(l, ",") + "])"
	case api.TermConst:
		name, _ := p.Name(x.A)
		return name
	}
	return "0"
}

func TestP402Parts(t *testing.T) {
	p := parsed(t, "P = a.P + 'b.0\nQ = (P | Q2)\\{a, c}\nQ2 = tau.Q2[b/a]")
	if p.Defs() != 3 {
		t.Errorf("Defs: %d", p.Defs())
	}
	for k, want := range []string{"P", "Q", "Q2"} {
		name, err := p.Name(k)
		answered(t, "Name", name, err, want)
		number, err := p.Const(want)
		answered(t, "Const", number, err, k)
	}
	for k, want := range []string{"((a.P)+('b.0))", `((P|Q2)\{a,c})`, "((tau.Q2)[b/a])"} {
		id, err := p.Body(k)
		if got := tree(t, p, id); err != nil || got != want {
			t.Errorf("Body(%d): %s, %v, not %s", k, got, err, want)
		}
	}
	if !slices.Equal(p.Names().Names(), []string{"a", "b", "c"}) {
		t.Errorf("Names: %v", p.Names().Names())
	}
}

func TestP402Refused(t *testing.T) {
	p := parsed(t, "P = a.Q\n\nQ = 0")
	for _, k := range []int{-1, 2, 3, least, greatest} {
		name, err := p.Name(k)
		refused(t, fmt.Sprint("Name ", k), name, err, api.ErrIndex)
		body, err := p.Body(k)
		refused(t, fmt.Sprint("Body ", k), body, err, api.ErrIndex)
	}
	for _, name := range []string{"", "R", "p", "a", "0", "P ", " P", "PP", "Q2", "P = a.Q", "\n", strings.Repeat("P", 1<<17)} {
		k, err := p.Const(name)
		refused(t, fmt.Sprintf("Const(%.20q)", name), k, err, api.ErrUnknown)
	}
	_, one := p.Const("R")
	_, two := p.Const("R")
	if one == two {
		t.Error("one fault told twice")
	}
}

func TestP402GoesOnWithItsOwn(t *testing.T) {
	p := parsed(t, "P = a.P")
	names, store := p.Names(), p.Store()
	read(t, p, "b.0")
	if _, err := p.Term("c.d.("); err == nil {
		t.Error("a term that is none was taken")
	}
	read(t, p, "e.0 | a.P")
	if p.Names() != names || p.Store() != store {
		t.Error("another table, or another store")
	}
	if !slices.Equal(names.Names(), []string{"a", "b", "e"}) {
		t.Errorf("Names: %v", names.Names())
	}
	if _, err := names.Add("f"); err != nil {
		t.Fatal(err)
	}
	id, err := store.Put(api.Term{Kind: api.TermPrefix, Label: act.Label(3, true)})
	if err != nil {
		t.Fatal(err)
	}
	text, err := p.Print(id)
	answered(t, "what was put into the store", text, err, "'f.0")
	if read(t, p, "'f.0") != id {
		t.Error("what was put into the store is read as another term")
	}
}

func TestP402OfNone(t *testing.T) {
	for what, p := range map[string]*source.Program{"nil": nil, "zero": {}} {
		if p.Defs() != 0 || p.Names() != nil || p.Store() != nil {
			t.Errorf("%s: %d, %v, %v", what, p.Defs(), p.Names(), p.Store())
		}
		number, err := p.Const("P")
		refused(t, what+" Const", number, err, api.ErrArg)
		name, err := p.Name(0)
		refused(t, what+" Name", name, err, api.ErrArg)
		body, err := p.Body(0)
		refused(t, what+" Body", body, err, api.ErrArg)
		text, err := p.Print(0)
		refused(t, what+" Print", text, err, api.ErrArg)
		text, err = p.Text()
		refused(t, what+" Text", text, err, api.ErrArg)
		for _, text := range []string{"0", "", "!"} {
			id, err := p.Term(text)
			refused(t, what+" Term", id, err, api.ErrArg)
		}
	}
}

func TestP403Term(t *testing.T) {
	p := parsed(t, "P = a.P\nQ = P")
	for _, c := range []struct{ text, want string }{
		{"0", "0"},
		{"P", "P"},
		{" b.P | P # x\n\n", "((b.P)|P)"},
		{"\n# x\n\t a.Q + 0\n  \r\n# y\n", "((a.Q)+0)"},
		{"c.0\\{c, a}[a/d]", `(((c.0)\{a,c})[a/d])`},
	} {
		if got := tree(t, p, read(t, p, c.text)); got != c.want {
			t.Errorf("Term(%q): %s, not %s", c.text, got, c.want)
		}
	}
	if !slices.Equal(p.Names().Names(), []string{"a", "b", "c", "d"}) {
		t.Errorf("Names: %v", p.Names().Names())
	}
	if read(t, p, "a.P") != read(t, p, "(a.(P))") || read(t, p, "a.P") == read(t, p, "a.Q") {
		t.Error("a term has not just one number")
	}
	if body, err := p.Body(0); err != nil || body != read(t, p, "a.P") {
		t.Errorf("a body is read as another term: %d, %v", body, err)
	}
	if p.Defs() != 2 {
		t.Errorf("Defs: %d", p.Defs())
	}
}

func TestP403Refused(t *testing.T) {
	p := parsed(t, "P = a.P")
	for _, c := range []struct {
		text      string
		err       error
		line, col int
	}{
		{"", api.ErrSyntax, 1, 1}, {" \n\n # x\n ", api.ErrSyntax, 1, 1}, {"\n", api.ErrSyntax, 1, 1},
		{"c.Q", api.ErrUnknown, 1, 3}, {"c.P + Q | R", api.ErrUnknown, 1, 7}, {"\n R + c.Q", api.ErrUnknown, 2, 2},
		{"c.Q d", api.ErrSyntax, 1, 5}, {"Q\nP", api.ErrSyntax, 2, 1}, {"P\nP", api.ErrSyntax, 2, 1}, {"c.Q\n\n # x\n  0", api.ErrSyntax, 4, 3},
		{"P\n)", api.ErrSyntax, 2, 1}, {"P\n\n  c.0", api.ErrSyntax, 3, 3}, {"P\n+ P", api.ErrSyntax, 2, 1}, {"P +\nP", api.ErrSyntax, 1, 4}, {"(P\n+ P)", api.ErrSyntax, 1, 3},
		{"P = 0", api.ErrSyntax, 1, 3}, {"P = a.P", api.ErrSyntax, 1, 3}, {"c.1", api.ErrSyntax, 1, 3}, {"\n c.(", api.ErrSyntax, 2, 5}, {"c", api.ErrSyntax, 1, 2},
		{"c.'tau.0", api.ErrSilent, 1, 4}, {"Q\\{c, d, c}", api.ErrTwice, 1, 10}, {"Q[c/d, e/d]", api.ErrTwice, 1, 10},
		{"Q\\{c, c}\n0", api.ErrTwice, 1, 7}, {"0 0\\{c, c}", api.ErrSyntax, 1, 3},
		{strings.Repeat("(", 61), api.ErrDeep, 1, 61}, {"Q + " + strings.Repeat("c.", 61) + "0 0", api.ErrDeep, 1, 125},
	} {
		id, err := p.Term(c.text)
		refusedAt(t, fmt.Sprintf("Term(%.40q)", c.text), id, err, c.err, c.line, c.col)
	}
	for _, c := range []struct {
		text      string
		err       error
		line, col int
	}{
		{"!", api.ErrWord, 1, 1}, {"P\n c.!", api.ErrWord, 2, 4}, {") !", api.ErrWord, 1, 3}, {"c.0 01", api.ErrWord, 1, 5}, {"c." + strings.Repeat("d", 33), api.ErrLong, 1, 3}, {"1073741825", api.ErrLong, 1, 1},
		{strings.Repeat(" ", api.MaxText+1), api.ErrLong, 0, 0},
	} {
		id, err := p.Term(c.text)
		handedOn(t, fmt.Sprintf("Term(%.40q)", c.text), id, err, "lexis", c.err, c.line, c.col)
	}
	if !slices.Equal(p.Names().Names(), []string{"a"}) {
		t.Errorf("the table is not as it was: %v", p.Names().Names())
	}
	if got := tree(t, p, read(t, p, "b.P + c.0")); got != "((b.P)+(c.0))" || !slices.Equal(p.Names().Names(), []string{"a", "b", "c"}) {
		t.Errorf("behind the errors: %s with %v", got, p.Names().Names())
	}
	text, err := p.Text()
	answered(t, "the definitions", text, err, "P = a.P\n")
}

func TestP403NamesAreFew(t *testing.T) {
	p := parsed(t, "P = a.P")
	for i := range api.MaxNames - 2 {
		read(t, p, fmt.Sprint("n", i, ".0"))
	}
	id, err := p.Term("x.y.0")
	refusedAt(t, "one name too many", id, err, api.ErrLong, 1, 3)
	if p.Names().Size() != api.MaxNames-1 {
		t.Errorf("%d names", p.Names().Size())
	}
	read(t, p, "y.0")
	read(t, p, "tau.'y.a.n97.0")
	for _, c := range []struct {
		text string
		col  int
	}{{"x.0", 1}, {"'x.0", 2}, {"0\\{a, x}", 7}, {"0[x/a]", 3}, {"0[a/x]", 5}, {"x", 1}, {"Q + x.0 +", 5}} {
		id, err := p.Term(c.text)
		refusedAt(t, c.text, id, err, api.ErrLong, 1, c.col)
	}
	if names := p.Names().Names(); len(names) != api.MaxNames || names[99] != "y" {
		t.Errorf("Names: %v", names)
	}
}

func TestP404Print(t *testing.T) {
	p := parsed(t, "P = a.P\nQ = b.0")
	for _, text := range []string{"0", "P", "a.P + 'b.0", "(a.0 + Q) | (P | 0)", "(a.Q\\{a, b} + P)[b/a, a/b]", "tau.(P + Q)", "0\\{}[]"} {
		got, err := p.Print(read(t, p, text))
		answered(t, "Print", got, err, text)
	}
	for text, want := range map[string]string{"((P))+(0)": "P + 0", "0\\{b,a}": "0\\{a, b}", "0[a/b,b/a]": "0[b/a, a/b]", "(a.0)[ ]": "a.0[]", "a.(b.0)": "a.b.0"} {
		got, err := p.Print(read(t, p, text))
		answered(t, text, got, err, want)
	}
	for _, id := range []int{-1, p.Store().Size(), least, greatest} {
		text, err := p.Print(id)
		handedOn(t, fmt.Sprint("Print ", id), text, err, "term", api.ErrIndex, 0, 0)
	}
	for _, x := range []api.Term{{Kind: api.TermConst, A: 2}, {Kind: api.TermPrefix, Label: 5}} {
		id, err := p.Store().Put(x)
		if err != nil {
			t.Fatal(err)
		}
		text, err := p.Print(id)
		handedOn(t, fmt.Sprint(x), text, err, "term", api.ErrUnknown, 0, 0)
	}
	id := 0
	for range 20 {
		id, _ = p.Store().Put(api.Term{Kind: api.TermSum, A: id, B: id})
	}
	text, err := p.Print(id)
	handedOn(t, "too long", text, err, "term", api.ErrLong, 0, 0)
}

func TestP404Text(t *testing.T) {
	for text, want := range map[string]string{
		"P = a.P + 'b.0\nQ = (P | Q2)\\{a, c}\nQ2 = tau.Q2[b/a]": "P = a.P + 'b.0\nQ = (P | Q2)\\{a, c}\nQ2 = tau.Q2[b/a]\n",
		"\n# x\nB=A\n\n  A=(0)#y\n":                              "B = A\nA = 0\n",
	} {
		got, err := parsed(t, text).Text()
		answered(t, text, got, err, want)
	}
}

// zeros tells a text for a body that is told with just n bytes, an odd number from 5 on.
func zeros(n int) string {
	// A sum of k noughts has 4 k - 3 bytes, and a prefix two more.
	text := strings.Repeat("0+", (n-1)/4) + "0"
	if (n-1)%4 == 2 {
		text = "a." + text
	}
	return text
}

func TestP404TextTooLong(t *testing.T) {
	// The name, the sign and the line's end are 5 bytes: the body has the rest.
	for _, c := range []struct {
		text string
		long bool
	}{
		{"P=" + zeros(api.MaxText-5), false},
		{"PP=" + zeros(api.MaxText-5), true},
		{"P=" + zeros(api.MaxText-3), true},
		{"P=" + zeros(api.MaxText-1), true},
		{"P=" + zeros(api.MaxText+1), true},
		{"P=" + zeros(api.MaxText+1001), true},
		{"P=" + zeros(20001) + "\nQ=" + zeros(api.MaxText-20001-10), false},
		{"P=" + zeros(20001) + "\nQQ=" + zeros(api.MaxText-20001-10), true},
		{"P=" + zeros(20001) + "\nQ=" + zeros(api.MaxText-20001-8), true},
		{"P=" + zeros(api.MaxText+101) + "\nQ=0", true},
		{"Q=0\nP=" + zeros(api.MaxText+101) + "\nR=0", true},
	} {
		p := parsed(t, c.text)
		text, err := p.Text()
		if c.long {
			refused(t, "too long", text, err, api.ErrLong)
		} else if err != nil || len(text) != api.MaxText {
			t.Errorf("%d bytes, %v, not MaxText", len(text), err)
		}
	}
}

// trees tells texts of all terms of at most that many signs one in another over few parts, with brackets around each part.
func trees(signs int) []string {
	all := []string{"0", "P", "Q"}
	for range signs {
		var next []string
		for i, x := range all {
			next = append(next, "tau.("+x+")", "b.("+x+")", "'a.("+x+")", "("+x+")\\{}", "("+x+")\\{b, a}", "("+x+")[]", "("+x+")[a/b, c/a]")
			for j := i % 3; j < len(all); j += 1 + len(all)/9 {
				next = append(next, "("+x+") + ("+all[j]+")", "("+x+") | ("+all[j]+")")
			}
		}
		all = append(all, next...)
	}
	return all
}

func TestP405TermOfPrint(t *testing.T) {
	p := parsed(t, "P = a.P\nQ = c.b.P")
	for _, text := range trees(3) {
		id := read(t, p, text)
		printed, err := p.Print(id)
		if err != nil || len(printed) > len(text) {
			t.Fatalf("%q is told as %q, %v", text, printed, err)
		}
		if read(t, p, printed) != id {
			t.Fatalf("%q is told as %q, which is another term", text, printed)
		}
	}
}

// alike fails, unless two programs have the same constants and, by the texts of names, the same bodies.
func alike(t *testing.T, what string, p, q *source.Program) {
	t.Helper()
	if p.Defs() != q.Defs() {
		t.Errorf("%s: %d definitions, and %d", what, p.Defs(), q.Defs())
		return
	}
	for k := range p.Defs() {
		one, _ := p.Name(k)
		two, _ := q.Name(k)
		a, _ := p.Body(k)
		b, _ := q.Body(k)
		// The other's body, read by the names' texts into p's own store.
		text, err := q.Print(b)
		if err != nil || one != two || read(t, p, text) != a {
			t.Errorf("%s: %s and %s, whose body %q is another, %v", what, one, two, text, err)
		}
	}
}

func TestP405ParseOfText(t *testing.T) {
	texts := []string{
		"P = a.P + 'b.0\nQ = (P | Q2)\\{a, c}\nQ2 = tau.Q2[b/a]",
		// Names come in another order in its own text.
		"P = 0\\{b, a}\nQ = 0\\{a, b}", "P = 0[c/b, d/a] | a.b.c.d.0", "P = x.0 | (0[y/x, z/y])\\{z, y}\nP2 = z.y.x.P",
	}
	for _, body := range trees(2) {
		texts = append(texts, "R = d."+"("+body+")\nQ = a.P\nP = b.(R | Q)")
	}
	for _, text := range texts {
		p := parsed(t, text)
		told, err := p.Text()
		if err != nil {
			t.Fatalf("%q: %v", text, err)
		}
		alike(t, text, p, parsed(t, told))
	}
}

func TestKeepsNothingOfAnother(t *testing.T) {
	p, q := parsed(t, "P = a.P"), parsed(t, "P = b.P")
	read(t, p, "c.0")
	if !slices.Equal(p.Names().Names(), []string{"a", "c"}) || !slices.Equal(q.Names().Names(), []string{"b"}) {
		t.Errorf("%v, %v", p.Names().Names(), q.Names().Names())
	}
	var none *term.Store
	if p.Store() == q.Store() || p.Store() == none {
		t.Error("one store for two programs")
	}
}
