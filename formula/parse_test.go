package formula_test

import (
	"fmt"
	"slices"
	"strings"
	"testing"

	"semblance/api"
	"semblance/formula"
)

// offends fails, unless Parse refuses a text with that error at that place.
func offends(t *testing.T, text string, want error, line, col int) {
	t.Helper()
	f, err := formula.Parse(text)
	isFault(t, fmt.Sprintf("Parse(%.100q)", text), err, want, line, col, "formula")
	equal(t, "beside an error", f, nil)
}

// agrees fails, unless Parse tells what is to be told of a text that lexis takes; it tells the error of that.
func agrees(t *testing.T, text string) error {
	t.Helper()
	want := read(text)
	f, err := formula.Parse(text)
	if want.err != nil {
		isFault(t, fmt.Sprintf("Parse(%.300q)", text), err, want.err, want.line, want.col, "formula")
	} else if err != nil {
		t.Errorf("Parse(%.300q): %v", text, err)
	}
	equal(t, fmt.Sprintf("Parse(%.300q)", text), f, want.list)
	return want.err
}

func TestP1503Given(t *testing.T) {
	for text, want := range map[string]tree{
		"tt": tt(), "~tt": not(tt()), "<0>tt": may(0, tt()), "<200>tt": may(200, tt()), "(tt)": tt(), "((tt))": tt(), "~~<1>~tt": not(not(may(1, not(tt())))),
		"tt & tt": and(tt(), tt()), "tt&tt&tt": and(and(tt(), tt()), tt()), "tt & (tt & ~tt)": and(tt(), and(tt(), not(tt()))), "(tt & tt) & tt": and(and(tt(), tt()), tt()),
		"~tt & tt": and(not(tt()), tt()), "~(tt & tt)": not(and(tt(), tt())), "<1>tt & tt": and(may(1, tt()), tt()), "<1>(tt & tt)": may(1, and(tt(), tt())), "tt & ~tt & <2>tt": and(and(tt(), not(tt())), may(2, tt())),
		"~(tt) & tt": and(not(tt()), tt()), "~((tt & tt))&(tt)": and(not(and(tt(), tt())), tt()),
		// Blanks, remarks, lines without words.
		" \t< 1\r> tt # & tt\n": may(1, tt()), "\n\n  tt\n\n": tt(), "# x\n~ ( tt )#)\n# y\n \t\r\n": not(tt()), "tt#": tt(), "tt # !\xff": tt(), "\r\ntt\r\n": tt(),
	} {
		equal(t, text, parsed(t, text), want.list())
	}
}

func TestP1503Syntax(t *testing.T) {
	for _, c := range []struct {
		text      string
		line, col int
	}{
		{"", 1, 1}, {" \t\r", 1, 1}, {"\n\n", 1, 1}, {"\n # x\n\n", 1, 1}, {"#tt", 1, 1},
		{"tt &", 1, 5}, {"tt & # x", 1, 9}, {"tt &  ", 1, 7}, {"tt & & tt", 1, 6}, {"& tt", 1, 1}, {"tt tt", 1, 4}, {"tt ~tt", 1, 4}, {"tt (tt)", 1, 4}, {"tt <1>tt", 1, 4}, {"tt)", 1, 3}, {"tt & tt) & tt", 1, 8},
		{"<a>tt", 1, 2}, {"<>tt", 1, 2}, {"<", 1, 2}, {"<1", 1, 3}, {"<1 tt", 1, 4}, {"<1>", 1, 4}, {"<1>&", 1, 4}, {"<1>)", 1, 4}, {"<1 1>tt", 1, 4}, {"<-1>tt", 1, 2}, {"<<1>>tt", 1, 2}, {"<(1)>tt", 1, 2}, {"<tau>tt", 1, 2}, {"<~1>tt", 1, 2}, {"<tt>tt", 1, 2}, {"<1>1", 1, 4}, {"<1<2>tt", 1, 3},
		{"~", 1, 2}, {"~~", 1, 3}, {"~&", 1, 2}, {"~)", 1, 2}, {"~1", 1, 2}, {"(", 1, 2}, {"()", 1, 2}, {"(tt", 1, 4}, {"(tt & tt", 1, 9}, {"((tt)", 1, 6}, {"(tt))", 1, 5}, {"(tt &)", 1, 6}, {"(tt tt)", 1, 5}, {"(tt]", 1, 4}, {")", 1, 1}, {">", 1, 1}, {"1", 1, 1}, {"0", 1, 1},
		{"t", 1, 1}, {"ttt", 1, 1}, {"TT", 1, 1}, {"Tt", 1, 1}, {"ff", 1, 1}, {"tt_", 1, 1}, {"tt1", 1, 1}, {"true", 1, 1}, {"tt | tt", 1, 4}, {"tt + tt", 1, 4}, {"tt;", 1, 3}, {"-tt", 1, 1}, {"[1]tt", 1, 1}, {"{tt}", 1, 1}, {"tt = tt", 1, 4}, {"'tt", 1, 1}, {"tt.tt", 1, 3},
		// One line alone: what stands in further ones can't go on with it.
		{"tt\ntt", 2, 1}, {"tt\n\n # x\n  & tt", 4, 3}, {"tt &\ntt", 1, 5}, {"(tt\n)", 1, 4}, {"<1>\ntt", 1, 4}, {"~\ntt", 1, 2}, {"\n\n~tt tt\n", 3, 5}, {"tt\n<201>tt", 2, 1}, {"tt\n" + strings.Repeat("(", 99), 2, 1}, {"tt\n1 & \ntt", 2, 1},
	} {
		offends(t, c.text, api.ErrSyntax, c.line, c.col)
	}
}

func TestP1503LexisIsHandedOn(t *testing.T) {
	for _, c := range []struct {
		text      string
		err       error
		line, col int
	}{
		{"!", api.ErrWord, 1, 1}, {"<01>tt", api.ErrWord, 1, 2}, {"tt\n\n  tt!", api.ErrWord, 3, 5}, {"<1a>tt", api.ErrWord, 1, 2}, {"<1073741825>tt", api.ErrLong, 1, 2}, {strings.Repeat("t", 33), api.ErrLong, 1, 1},
		// The words come first, whatever offends ahead of them.
		{"tt tt \xff", api.ErrWord, 1, 7}, {"<201>tt $", api.ErrWord, 1, 9}, {strings.Repeat("~", 61) + "\"", api.ErrWord, 1, 62}, {"(\n?", api.ErrWord, 2, 1},
		{strings.Repeat("~", api.MaxText+1), api.ErrLong, 0, 0}, {"tt" + strings.Repeat(" ", api.MaxText-1), api.ErrLong, 0, 0},
	} {
		f, err := formula.Parse(c.text)
		isFault(t, c.text, err, c.err, c.line, c.col, "formula", "lexis")
		equal(t, "beside an error", f, nil)
	}
	equal(t, "a text of MaxText bytes", parsed(t, "tt"+strings.Repeat(" ", api.MaxText-2)), tt().list())
}

func TestP1503Deep(t *testing.T) {
	for _, sign := range []string{"~", "<1>", "("} {
		closing := ""
		if sign == "(" {
			closing = ")"
		}
		of := func(many int) string { return strings.Repeat(sign, many) + "tt" + strings.Repeat(closing, many) }
		parsed(t, of(60))
		parsed(t, of(60)+" & "+of(60))
		offends(t, of(61), api.ErrDeep, 1, 60*len(sign)+1)
		offends(t, strings.Repeat(sign, 61), api.ErrDeep, 1, 60*len(sign)+1)
		offends(t, of(60)+"&"+of(61), api.ErrDeep, 1, len(of(60))+1+60*len(sign)+1)
		// They count together.
		for _, other := range []string{"~tt", "<1>tt", "(tt)"} {
			whole := strings.Repeat(sign, 59) + other
			if agrees(t, whole+strings.Repeat(closing, 59)) != nil {
				t.Errorf("59 and one: %s", whole)
			}
			offends(t, sign+whole, api.ErrDeep, 1, 60*len(sign)+1)
		}
	}
	// What came to its end stands open no more: with its bracket the not ahead of it ends, too.
	parsed(t, strings.Repeat("~(", 30)+"tt"+strings.Repeat(")", 30)+" & "+strings.Repeat("<7>(", 30)+"tt"+strings.Repeat(")", 30))
	parsed(t, strings.Repeat("(tt & ", 60)+"tt"+strings.Repeat(")", 60)+" & ~tt")
	parsed(t, strings.Repeat("(~tt & ", 59)+"~tt"+strings.Repeat(")", 59))
	parsed(t, strings.Repeat("(", 59)+"~tt & ~tt & <1>tt & (tt) & ~tt"+strings.Repeat(")", 59))
	offends(t, strings.Repeat("(", 59)+"~tt & ~~tt"+strings.Repeat(")", 59), api.ErrDeep, 1, 67)
	offends(t, strings.Repeat("~", 59)+"(tt & ~tt)", api.ErrDeep, 1, 66)
	// What can't stand there offends ahead of it; what stands behind it does not.
	offends(t, strings.Repeat("~", 60)+"&", api.ErrSyntax, 1, 61)
	offends(t, strings.Repeat("~", 60)+"<999>", api.ErrDeep, 1, 61)
	offends(t, strings.Repeat("~", 59)+"<999>~", api.ErrIndex, 1, 61)
}

func TestP1503Index(t *testing.T) {
	offends(t, "<201>tt", api.ErrIndex, 1, 2)
	offends(t, "<1073741824>tt", api.ErrIndex, 1, 2)
	offends(t, "<1>~< 300 >tt", api.ErrIndex, 1, 7)
	// At its own word, ahead of what offends further on.
	offends(t, "<201 tt", api.ErrIndex, 1, 2)
	offends(t, "<201", api.ErrIndex, 1, 2)
	offends(t, "<201>tt\ntt", api.ErrIndex, 1, 2)
	offends(t, "tt <201>tt", api.ErrSyntax, 1, 4)
	// A number elsewhere is no label.
	offends(t, "201", api.ErrSyntax, 1, 1)
	offends(t, "~201", api.ErrSyntax, 1, 2)
	for label := range api.MaxLabels {
		equal(t, "a label", parsed(t, fmt.Sprintf("<%d>tt", label)), may(label, tt()).list())
	}
}

func TestP1503Many(t *testing.T) {
	// 4999 nodes in 7499 bytes.
	most := "tt" + strings.Repeat("&tt", 2499)
	parsed(t, most)
	offends(t, most+"&tt", api.ErrFormula, 1, 7501)
	offends(t, most+"&(tt)", api.ErrFormula, 1, 7502)
	offends(t, most+"&~tt", api.ErrFormula, 1, 7501)
	offends(t, most+"&<1>tt", api.ErrFormula, 1, 7501)
	offends(t, most+"&((<1>tt", api.ErrFormula, 1, 7503)
	// 5000 of them.
	for _, begin := range []string{"~", "<9>"} {
		full := begin + most
		if f := parsed(t, full); len(f) != api.MaxFormula {
			t.Errorf("%d nodes", len(f))
		}
		offends(t, full+"&tt", api.ErrFormula, 1, len(full)+1)
		offends(t, full+"&", api.ErrFormula, 1, len(full)+1)
		offends(t, full+" & &", api.ErrFormula, 1, len(full)+2)
		// What makes no node, and what can't stand there.
		parsed(t, "("+full+")")
		offends(t, full+" tt", api.ErrSyntax, 1, len(full)+2)
		offends(t, full+")", api.ErrSyntax, 1, len(full)+1)
		offends(t, full+"\n&tt", api.ErrSyntax, 2, 1)
		offends(t, "("+full+" ", api.ErrSyntax, 1, len(full)+3)
	}
	// At one word what stands too deep comes first, but a bracket makes no node, and the label comes behind the may.
	deep := "tt" + strings.Repeat("&tt", 2469)
	nots := strings.Repeat("~", 60)
	parsed(t, deep+"&"+nots[1:]+"tt")
	offends(t, deep+"&"+nots+"tt", api.ErrFormula, 1, len(deep)+1+60+1)
	offends(t, deep+"&"+nots+"~", api.ErrDeep, 1, len(deep)+1+60+1)
	offends(t, deep+"&"+nots+"<1>tt", api.ErrDeep, 1, len(deep)+1+60+1)
	offends(t, deep+"&"+nots+"(", api.ErrDeep, 1, len(deep)+1+60+1)
	offends(t, deep+"&"+nots+"&", api.ErrSyntax, 1, len(deep)+1+60+1)
	offends(t, "~tt&"+most+"&<201>tt", api.ErrFormula, 1, 7501)
	offends(t, most+"&<201>tt", api.ErrFormula, 1, 7501)
	offends(t, "tt"+strings.Repeat("&tt", 2498)+"&<201>tt", api.ErrIndex, 1, 7499)
}

func TestP1503EveryShortText(t *testing.T) {
	words := []string{"tt", "~", "&", "<", "7", ">", "(", ")", "a", "P", "201", "\n", "|"}
	right, wrong := 0, 0
	var walk func(text string, left int)
	walk = func(text string, left int) {
		if agrees(t, text) == nil {
			right++
		} else {
			wrong++
		}
		if t.Failed() {
			t.FailNow()
		}
		for i := 0; i < len(words) && left > 0; i++ {
			walk(text+" "+words[i], left-1)
		}
	}
	walk("", 5)
	// Longer ones of what may stand there alone.
	words = words[:4]
	words[3] = "<0>"
	walk("", 8)
	words = []string{"tt", "&", "(", ")"}
	walk("", 8)
	if right < 500 || wrong < 100000 {
		t.Errorf("%d are formulas, %d are not", right, wrong)
	}
}

// begun tells beginnings of texts: some near to a limit.
func begun() []string {
	var all []string
	for _, deep := range []string{"", strings.Repeat("~", 57), strings.Repeat("(", 58), strings.Repeat("<3>(tt & ~", 19)} {
		for _, many := range []int{0, 2460, 2485, 2498} {
			all = append(all, strings.Repeat("tt & ", many)+deep)
		}
	}
	return all
}

func TestP1503Several(t *testing.T) {
	x := &numbers{at: 3}
	found := map[error]int{}
	list := begun()
	for n := range 40000 {
		text := ""
		// The beginnings are long, so that they come now and then.
		if n%10 == 0 {
			text = list[n/10%len(list)]
		}
		for range x.below(40) {
			next := []string{"tt & ", "~", "<1>", "<200>", "(", "tt) & ", "tt & tt)", " ", "~tt & "}[x.below(9)]
			if x.below(60) == 0 {
				next = []string{"<201>", "<1000>", "<", ">", "&", "x ", "tt ", "\n", ")"}[x.below(9)]
			}
			text += next
		}
		if x.below(10) > 0 {
			text += "tt" + strings.Repeat(")", max(0, strings.Count(text, "(")-strings.Count(text, ")")))
		}
		found[agrees(t, text)]++
		if t.Failed() {
			t.FailNow()
		}
	}
	for _, err := range []error{nil, api.ErrSyntax, api.ErrDeep, api.ErrIndex, api.ErrFormula} {
		if found[err] < 200 {
			t.Errorf("only %d times %v", found[err], err)
		}
	}
}

func TestP1503Spelt(t *testing.T) {
	x := &numbers{at: 44}
	for range 3000 {
		one := x.tree(1+x.below(25), api.MaxLabels)
		text := x.spelt(one)
		if want := read(text); want.err == nil && !slices.Equal(want.list, one.list()) {
			t.Fatalf("%s: %v", text, want.list)
		}
		agrees(t, " #\n\n"+text+" # tt\n\t\n")
		agrees(t, text)
	}
}
