package source_test

import (
	"fmt"
	"slices"
	"strings"
	"testing"

	"semblance/api"
	"semblance/source"
)

// offends fails, unless Parse refuses a text with that error at that place.
func offends(t *testing.T, text string, want error, line, col int) {
	t.Helper()
	p, err := source.Parse(text)
	refusedAt(t, fmt.Sprintf("Parse(%.60q)", text), p, err, want, line, col)
}

func TestP401Terms(t *testing.T) {
	// The names are numbered in the order of their letters.
	const ahead = "P = a.b.c.0\nQ = 0\nLong_Name9 = 0"
	p := parsed(t, ahead)
	for _, c := range []struct{ text, want string }{
		{"0", "0"}, {"P", "P"}, {"Long_Name9", "Long_Name9"}, {"(0)", "0"}, {"(((P)))", "P"},
		{"a.0", "(a.0)"}, {"'a.0", "('a.0)"}, {"' a . 0", "('a.0)"}, {"tau.0", "(tau.0)"}, {"tauP.taua.tau_.0", "(tauP.(taua.(tau_.0)))"},
		{"a.'b.tau.P", "(a.('b.(tau.P)))"}, {"a.(b.0)", "(a.(b.0))"}, {"a.(P + Q)", "(a.(P+Q))"},
		{"P + Q", "(P+Q)"}, {"P | Q", "(P|Q)"}, {"P + Q + 0", "((P+Q)+0)"}, {"P | Q | 0", "((P|Q)|0)"}, {"P + (Q + 0)", "(P+(Q+0))"}, {"P | (Q | 0)", "(P|(Q|0))"},
		{"P | Q + 0", "((P|Q)+0)"}, {"P + Q | 0", "(P+(Q|0))"}, {"P + Q | 0 + P | Q", "((P+(Q|0))+(P|Q))"}, {"(P + Q) | 0", "((P+Q)|0)"},
		{"a.P + b.Q | c.0", "((a.P)+((b.Q)|(c.0)))"},
		{`0\{}`, `(0\{})`}, {`0\{a}`, `(0\{a})`}, {`0\{a,b}`, `(0\{a,b})`}, {"0[]", "(0[])"}, {"0[b/a]", "(0[b/a])"}, {"0[a/a]", "(0[a/a])"}, {"0[b/a,a/b,a/c]", "(0[b/a,a/b,a/c])"},
		{`a.0\{a}`, `((a.0)\{a})`}, {`a.(0\{a})`, `(a.(0\{a}))`}, {"a.0[b/a]", "((a.0)[b/a])"}, {`P\{a}[b/c]\{c}[]`, `((((P\{a})[b/c])\{c})[])`},
		{`P | Q\{a}`, `(P|(Q\{a}))`}, {`(P | Q)\{a}`, `((P|Q)\{a})`}, {`P + Q[b/a]`, `(P+(Q[b/a]))`}, {`P\{a} + Q`, `((P\{a})+Q)`},
		{"a.(P)\\{b}", `((a.P)\{b})`}, {`0\{b,c,a}`, `(0\{a,b,c})`}, {"0[a/c,a/b]", "(0[a/b,a/c])"},
	} {
		if got := tree(t, p, read(t, p, c.text)); got != c.want {
			t.Errorf("Term(%q): %s, not %s", c.text, got, c.want)
		}
		q := parsed(t, ahead+"\nR = "+c.text)
		body, err := q.Body(3)
		if got := tree(t, q, body); err != nil || got != c.want {
			t.Errorf("R = %s: %s, %v, not %s", c.text, got, err, c.want)
		}
	}
}

func TestP401Examples(t *testing.T) {
	offends(t, "P = a.(b.0", api.ErrSyntax, 1, 11)
	offends(t, "P = ", api.ErrSyntax, 1, 5)
	offends(t, "P = a.0 0", api.ErrSyntax, 1, 9)
	offends(t, "p = 0", api.ErrSyntax, 1, 1)
	offends(t, "P = 1", api.ErrSyntax, 1, 5)
	offends(t, "P = 'tau.0", api.ErrSilent, 1, 6)
	offends(t, "P = 0\\{a, a}", api.ErrTwice, 1, 11)
	offends(t, "P = 0[a/b, c/b]", api.ErrTwice, 1, 14)
	offends(t, "P = 0\nP = 0", api.ErrTwice, 2, 1)
	offends(t, "", api.ErrNone, 0, 0)
	offends(t, "P = a.Q", api.ErrUnknown, 1, 7)
	offends(t, "P = Q | 0\nQ = a.0 + P", api.ErrUnguarded, 1, 1)
	offends(t, "P = 0 + P", api.ErrUnguarded, 1, 1)
}

// forms are the grammar's rules: small words stand for rules, all else for itself; NAME and CONST for words of that kind.
func forms(rule string) []string {
	switch rule {
	case "definition":
		return []string{"CONST = sum END"}
	case "sum":
		return []string{"par", "par + sum"}
	case "par":
		return []string{"post", "post | par"}
	case "post":
		return []string{"unit signs"}
	case "signs":
		return []string{"", `\ { } signs`, `\ { names } signs`, "[ ] signs", "[ pairs ] signs"}
	case "names":
		return []string{"NAME", "NAME , names"}
	case "pairs":
		return []string{"NAME / NAME", "NAME / NAME , pairs"}
	case "unit":
		return []string{"0", "CONST", "NAME . unit", "' NAME . unit", "( sum )"}
	}
	return nil
}

// opened tells all ways in which what is expected may go on with one word, each with that word first.
func opened(expected []string) [][]string {
	if len(expected) == 0 || forms(expected[0]) == nil {
		return [][]string{expected}
	}
	var all [][]string
	for _, form := range forms(expected[0]) {
		all = append(all, opened(slices.Concat(strings.Fields(form), expected[1:]))...)
	}
	return all
}

// stepped tells what may be expected behind each word that may come first; of no word else the grammar has one there.
func stepped(ways [][]string) map[string][][]string {
	next := map[string][][]string{}
	seen := map[string]bool{}
	for _, way := range ways {
		for _, form := range opened(way) {
			if all := strings.Join(form, " "); len(form) > 0 && !seen[all] {
				seen[all] = true
				next[form[0]] = append(next[form[0]], form[1:])
			}
		}
	}
	return next
}

// lines walks through the lines that are begun as the grammar has it, and gives each with a further word, and whether that may stand there.
type lines struct {
	give func(text string, right, whole bool)
}

func (l lines) walk(text string, ways [][]string, left int) {
	behind := stepped(ways)
	for _, word := range []string{"NAME", "CONST", "0", "1", ".", "'", "(", ")", "+", "|", `\`, "{", "}", "[", "]", ",", "/", "=", "-", "END"} {
		spelt := word
		switch word {
		case "NAME":
			// No name twice, so that nothing but the grammar refuses it.
			spelt = fmt.Sprint("n", len(text))
		case "CONST":
			spelt = "P"
		case "END":
			spelt = ""
		}
		next := behind[word]
		if text == "" && word == "END" {
			// That is no line.
			continue
		}
		l.give(text+" "+spelt, len(next) > 0, word == "END")
		if len(next) > 0 && word != "END" && left > 1 {
			l.walk(text+" "+spelt, next, left-1)
		}
	}
}

func TestP401EveryShortLine(t *testing.T) {
	count := 0
	l := lines{give: func(text string, right, whole bool) {
		count++
		p, err := source.Parse(text)
		f, ok := err.(*api.Fault)
		last := strings.LastIndex(text, " ") + 2
		if whole {
			last = len(text) + 1
		}
		switch {
		case !right:
			if !ok || *f != (api.Fault{Layer: "source", Line: 1, Col: last, Err: api.ErrSyntax}) {
				t.Fatalf("Parse(%q): %+v, not ErrSyntax at %d", text, err, last)
			}
		case whole:
			// A line that is right is refused at most since P needs itself.
			if p == nil && (!ok || f.Err != api.ErrUnguarded) {
				t.Fatalf("Parse(%q): %+v", text, err)
			}
		default:
			// What is begun rightly is refused at no word ahead of its end.
			if ok && f.Err == api.ErrSyntax && f.Col <= len(text) {
				t.Fatalf("Parse(%q): %+v", text, err)
			}
		}
	}}
	l.walk("", [][]string{{"definition"}}, 9)
	if count < 40000 {
		t.Errorf("only %d lines", count)
	}
}

func TestP401Syntax(t *testing.T) {
	for _, c := range []struct {
		text      string
		line, col int
	}{
		{"P", 1, 2}, {"P # x", 1, 6}, {"P =", 1, 4}, {"P 0", 1, 3}, {"P = = 0", 1, 5}, {"= 0", 1, 1}, {"0", 1, 1}, {"tau = 0", 1, 1}, {"1 = 0", 1, 1}, {"'P = 0", 1, 1}, {"(P = 0)", 1, 1},
		{"P = 0 P = 0", 1, 7}, {"P = 0;", 1, 6}, {"P = a", 1, 6}, {"P = tau", 1, 8}, {"P = a b.0", 1, 7}, {"P = '0", 1, 6}, {"P = 'P.0", 1, 6}, {"P = ''a.0", 1, 6}, {"P = P.0", 1, 6}, {"P = 0.0", 1, 6},
		{"P = a.b.0 | | 0", 1, 13}, {"P = + 0", 1, 5}, {"P = 0 +", 1, 8}, {"P = 0 | # x", 1, 12}, {"P = ()", 1, 6}, {"P = (0", 1, 7}, {"P = 0)", 1, 6}, {"P = (0))", 1, 8}, {"P = (0]", 1, 7},
		{"P = 0\\a", 1, 7}, {"P = 0\\", 1, 7}, {"P = 0\\{", 1, 8}, {"P = 0\\{a", 1, 9}, {"P = 0\\{a,}", 1, 10}, {"P = 0\\{,a}", 1, 8}, {"P = 0\\{a b}", 1, 10}, {"P = 0\\{A}", 1, 8}, {"P = 0\\{'a}", 1, 8}, {"P = 0\\{0}", 1, 8}, {"P = 0\\{a/b}", 1, 9}, {"P = 0\\{a]", 1, 9}, {"P = \\{a}", 1, 5}, {"P = 0\\[a]", 1, 7},
		{"P = 0[", 1, 7}, {"P = 0[a]", 1, 8}, {"P = 0[a/]", 1, 9}, {"P = 0[/a]", 1, 7}, {"P = 0[a/b", 1, 10}, {"P = 0[a/b,]", 1, 11}, {"P = 0[a/b c/d]", 1, 11}, {"P = 0[A/b]", 1, 7}, {"P = 0[a/B]", 1, 9}, {"P = 0['a/b]", 1, 7}, {"P = 0[a/'b]", 1, 9}, {"P = 0[a,b]", 1, 8}, {"P = 0[a/b}", 1, 10}, {"P = 0[a/0]", 1, 9}, {"P = a.[b/a]", 1, 7},
		{"P = 0\nQ", 2, 2}, {"P = 0\n\nQ = \nR = 0", 3, 5}, {"P = a.\n0", 1, 7}, {"P = 0\n+ 0", 2, 1}, {"P = (0\n)", 1, 7}, {"\n# x\n  p = 0", 3, 3}, {"P = 0\n0", 2, 1}, {"P = 0 -\n", 1, 7}, {"P = a.0 ~ 0", 1, 9}, {"P = <a>0", 1, 5}, {"P:0", 1, 2}, {"P = a&b", 1, 6},
	} {
		offends(t, c.text, api.ErrSyntax, c.line, c.col)
	}
}

func TestP401LexisIsHandedOn(t *testing.T) {
	for _, c := range []struct {
		text      string
		err       error
		line, col int
	}{
		{"P = !", api.ErrWord, 1, 5}, {"p\n\n 01", api.ErrWord, 3, 2}, {"P = 'tau.0\n\xff", api.ErrWord, 2, 1}, {"P = " + strings.Repeat("a", 33), api.ErrLong, 1, 5}, {"P = 1073741825", api.ErrLong, 1, 5},
		{strings.Repeat("P", api.MaxText+1), api.ErrLong, 0, 0}, {strings.Repeat("!", api.MaxText+1), api.ErrLong, 0, 0},
	} {
		p, err := source.Parse(c.text)
		handedOn(t, fmt.Sprintf("Parse(%.20q)", c.text), p, err, "lexis", c.err, c.line, c.col)
	}
}

func TestP401Silent(t *testing.T) {
	offends(t, "P = a.' tau.0", api.ErrSilent, 1, 9)
	offends(t, "P = 'tau", api.ErrSilent, 1, 6)
	offends(t, "P = 0\\{tau}", api.ErrSilent, 1, 8)
	offends(t, "P = 0\\{a, tau, tau}", api.ErrSilent, 1, 11)
	offends(t, "P = 0[tau/a]", api.ErrSilent, 1, 7)
	offends(t, "P = 0[a/tau]", api.ErrSilent, 1, 9)
	offends(t, "P = 0[a/b, tau/b]", api.ErrSilent, 1, 12)
	offends(t, "P = 0[a/b, c/tau]", api.ErrSilent, 1, 14)
	offends(t, "P = 0\nP2 = 'tau )", api.ErrSilent, 2, 7)
	if p := parsed(t, "P = tau.tau.tau.P"); p.Names().Size() != 0 {
		t.Errorf("the silent action has a name: %v", p.Names().Names())
	}
}

func TestP401Twice(t *testing.T) {
	offends(t, "P = 0\\{a, b, a}", api.ErrTwice, 1, 14)
	offends(t, "P = 0\\{a, a", api.ErrTwice, 1, 11)
	offends(t, "P = 0\\{b, a, a}", api.ErrTwice, 1, 14)
	offends(t, "P = 0[a/a, b/b, c/a]", api.ErrTwice, 1, 19)
	offends(t, "P = 0[a/b, a/b", api.ErrTwice, 1, 14)
	parsed(t, "P = a.0\\{a}\\{a}[a/a][a/a]")
	parsed(t, "P = 0[a/b, a/c, b/a]")
	offends(t, "P = 0\nQ = 0\n P = (", api.ErrTwice, 3, 2)
	offends(t, "P = 0\nP", api.ErrTwice, 2, 1)
	offends(t, "P = 0\n\nP = P\nP = 0", api.ErrTwice, 3, 1)
	offends(t, "P = 0\nQ = 0\nQ = 0\nP = 0", api.ErrTwice, 3, 1)
	offends(t, "P = (\nP = 0", api.ErrSyntax, 1, 6)
	offends(t, "P = 0\np = 0\nP = 0", api.ErrSyntax, 2, 1)
	parsed(t, "P = 0\nPP = 0\nP_ = 0\nP0 = 0")
}

// manyNames tells a body with n names.
func manyNames(n int) string {
	body := "0"
	for i := range n {
		body += fmt.Sprint("+n", i, ".0")
	}
	return body
}

func TestP401TooManyNames(t *testing.T) {
	full := "P = " + manyNames(api.MaxNames)
	if p := parsed(t, full+"+tau.'n5.0\\{n0,n99}[n7/n8]\nQ = n9.0"); p.Names().Size() != api.MaxNames {
		t.Errorf("%d names", p.Names().Size())
	}
	for tail, col := range map[string]int{"+x.0": 2, "+x": 2, "+'x.0": 3, "\\{n0,x}": 6, "\\{x": 3, "[x/n1]": 2, "[n1/x]": 5, "+'tau": -1, "+x +": 2} {
		if col < 0 {
			offends(t, full+tail, api.ErrSilent, 1, len(full)+3)
			continue
		}
		offends(t, full+tail, api.ErrLong, 1, len(full)+col)
	}
	offends(t, full+"\nQ = n5.x.0 + 'tau.0", api.ErrLong, 2, 8)
	offends(t, full+"\nQ = R + x.0", api.ErrLong, 2, 9)
}

// manyDefs tells n definitions.
func manyDefs(n int) string {
	text := ""
	for i := range n {
		text += fmt.Sprint("P", i, " = a.P", n-1-i, "\n")
	}
	return text
}

func TestP401TooManyDefs(t *testing.T) {
	p := parsed(t, manyDefs(api.MaxDefs))
	for k := range api.MaxDefs {
		number, err := p.Const(fmt.Sprint("P", k))
		answered(t, "Const", number, err, k)
		body, _ := p.Body(k)
		text, err := p.Print(body)
		answered(t, "Body", text, err, fmt.Sprint("a.P", api.MaxDefs-1-k))
	}
	// The first body names the one too many.
	offends(t, manyDefs(api.MaxDefs+1), api.ErrLong, api.MaxDefs+1, 1)
	offends(t, manyDefs(api.MaxDefs+2), api.ErrLong, api.MaxDefs+1, 1)
	full := manyDefs(api.MaxDefs)
	offends(t, full+"\n\n  Q", api.ErrLong, api.MaxDefs+3, 3)
	offends(t, full+"Q\nQ", api.ErrLong, api.MaxDefs+1, 1)
	offends(t, full+"P7 = 0", api.ErrTwice, api.MaxDefs+1, 1)
	offends(t, full+"p", api.ErrSyntax, api.MaxDefs+1, 1)
	offends(t, "Q0 = U\n"+full, api.ErrLong, api.MaxDefs+1, 1)
}

func TestP401TooDeep(t *testing.T) {
	deep := func(open, close string, n int) string {
		return strings.Repeat(open, n) + "0" + strings.Repeat(close, n)
	}
	for _, c := range []struct {
		open, close string
		at          int
	}{{"(", ")", 0}, {"a.", "", 0}, {"'a.", "", 0}, {"tau.", "", 0}, {"(0 + ", ")", 0}, {"(0|", ")\\{a}", 0}, {"(P\\{}+", ")[a/b] | b.0", 0}} {
		parsed(t, "P = a.P\nQ = "+deep(c.open, c.close, api.MaxDepth))
		parsed(t, "P = a.P\nQ = "+deep(c.open, c.close, api.MaxDepth)+" + "+deep(c.open, c.close, api.MaxDepth))
		offends(t, "P = a.P\nQ = "+deep(c.open, c.close, api.MaxDepth+1), api.ErrDeep, 2, 5+api.MaxDepth*len(c.open))
		offends(t, "P = "+deep(c.open, c.close, 1000), api.ErrDeep, 1, 5+api.MaxDepth*len(c.open))
	}
	half := strings.Repeat("(0+", 30)
	offends(t, "P = "+half+strings.Repeat("a.", 31)+"0"+strings.Repeat(")", 30), api.ErrDeep, 1, 5+90+60)
	offends(t, "P = "+half+strings.Repeat("a.", 30)+"(0)"+strings.Repeat(")", 30), api.ErrDeep, 1, 5+90+60)
	// What has come to its end counts no more.
	parsed(t, "P = "+half+strings.Repeat("a.", 30)+"0 + (a.0)\\{a} | b.a.0"+strings.Repeat(")", 30)+"+"+deep("(", ")", 60))
	parsed(t, "P = "+strings.Repeat("a.", 59)+"(0) + "+strings.Repeat("(a.0) | ", 70)+deep("(a.", ")", 30))
	offends(t, "P = "+strings.Repeat("a.", 59)+"(a.0)", api.ErrDeep, 1, 5+118+1)
	// One is open no more when a definition begins.
	parsed(t, "P = "+deep("(", ")", 60)+"\nQ = "+deep("a.", "", 60)+"\nR = "+deep("(", ")", 60))
}

func TestP401AtOneWord(t *testing.T) {
	in := "P = " + strings.Repeat("(", 60)
	// A word that can't stand there, ahead of one that stands too deep.
	offends(t, in+")", api.ErrSyntax, 1, 65)
	offends(t, in+"(", api.ErrDeep, 1, 65)
	offends(t, in+"a", api.ErrDeep, 1, 65)
	offends(t, in+"tau.0", api.ErrDeep, 1, 65)
	// The sign of a co-name stands ahead of its name.
	offends(t, in+"'tau.0", api.ErrDeep, 1, 65)
	offends(t, in+"'(", api.ErrDeep, 1, 65)
	offends(t, in+"0(", api.ErrSyntax, 1, 66)
	full := "Q = " + manyNames(api.MaxNames) + "\n"
	offends(t, full+in+"x.0", api.ErrLong, 2, 65)
	offends(t, full+in+"'x.0", api.ErrDeep, 2, 65)
	offends(t, full+in+"n4.0", api.ErrDeep, 2, 65)
	offends(t, full+in+"tau.0", api.ErrDeep, 2, 65)
}

func TestP401None(t *testing.T) {
	for _, text := range []string{"", "\n", " \t\r\n\n", "# P = 0", "#\n#\n"} {
		offends(t, text, api.ErrNone, 0, 0)
	}
}

func TestP401Unknown(t *testing.T) {
	offends(t, "P = a.P + Q | R", api.ErrUnknown, 1, 11)
	offends(t, "P = Q\nQ = 0 | (a.R)\\{b}\nS = T", api.ErrUnknown, 2, 12)
	offends(t, "P = P2", api.ErrUnknown, 1, 5)
	// Ahead of what needs itself, behind all that a line has against it.
	offends(t, "P = P\nQ = a.R", api.ErrUnknown, 2, 7)
	offends(t, "P = Q\nR = 0\nR = 0", api.ErrTwice, 3, 1)
	offends(t, "P = Q\nR = 'tau.0", api.ErrSilent, 2, 6)
	offends(t, "P = Q +", api.ErrSyntax, 1, 8)
	parsed(t, "P = Q\nQ = R\nR = S\nS = 0")
}

func TestP401Unguarded(t *testing.T) {
	for _, body := range []string{"P", "(P)", "0 + P", "P + 0", "0 | P", "P | 0", "P\\{a}", "P[b/a]", "a.0 + (b.0 | (0 + P)\\{a})[b/a]", "a.P + P", "P | a.P"} {
		offends(t, " P = "+body, api.ErrUnguarded, 1, 2)
		offends(t, "Q = "+body+"\nP = Q", api.ErrUnguarded, 1, 1)
	}
	for _, body := range []string{"a.P", "tau.P", "'a.P", "a.(0 + P)", "a.(P | P)\\{a}", "(a.P)[b/a]", "a.b.P", "a.0 + b.(c.0 | P)", "Q", "Q + a.P"} {
		parsed(t, "P = "+body+"\nQ = a.P")
	}
	offends(t, "P = Q\nQ = Q", api.ErrUnguarded, 2, 1)
	offends(t, "A = B\nB = C\nC = D\nD = B", api.ErrUnguarded, 2, 1)
	offends(t, "A = a.A\n  D = C\nC = A + a.D | E\nE = 0 + D", api.ErrUnguarded, 2, 3)
	parsed(t, "A = B | C\nB = D\nC = D\nD = a.A")
}

func TestP401EveryNeed(t *testing.T) {
	consts := []string{"P", "Q", "R"}
	// A body for each set of constants, each of which stands below no prefix or below one.
	body := func(set int) string {
		text := "0"
		for k, name := range consts {
			if set&(1<<k) != 0 {
				text += " | " + name
			} else {
				text += " | a." + name
			}
		}
		return text
	}
	for sets := range 1 << 9 {
		var need [3][3]bool
		text := ""
		for k, name := range consts {
			set := sets >> (3 * k) & 7
			text += name + " = " + body(set) + "\n"
			for n := range 3 {
				need[k][n] = set&(1<<n) != 0
			}
		}
		for over := range 3 {
			for from := range 3 {
				for to := range 3 {
					need[from][to] = need[from][to] || need[from][over] && need[over][to]
				}
			}
		}
		first := slices.IndexFunc([]int{0, 1, 2}, func(k int) bool { return need[k][k] })
		if first < 0 {
			parsed(t, text)
			continue
		}
		offends(t, text, api.ErrUnguarded, first+1, 1)
	}
}

func TestP401Numbers(t *testing.T) {
	p := parsed(t, "P = a.Q + 'b.0 + P2\nQ = (0\\{d, c, a} | Q2[f/e, c/b])\nP2 = tau.P\nQ2 = P2")
	if !slices.Equal(p.Names().Names(), []string{"a", "b", "d", "c", "f", "e"}) {
		t.Errorf("Names: %v", p.Names().Names())
	}
	want := []api.Term{
		{Kind: api.TermNil},
		{Kind: api.TermConst, A: 1},
		{Kind: api.TermPrefix, Label: 1, A: 1},
		{Kind: api.TermPrefix, Label: 4, A: 0},
		{Kind: api.TermSum, A: 2, B: 3},
		{Kind: api.TermConst, A: 2},
		{Kind: api.TermSum, A: 4, B: 5},
		{Kind: api.TermRes, A: 0, Names: []int{0, 2, 3}},
		{Kind: api.TermConst, A: 3},
		{Kind: api.TermRen, A: 8, Pairs: []api.Pair{{Old: 1, New: 3}, {Old: 5, New: 4}}},
		{Kind: api.TermPar, A: 7, B: 9},
		{Kind: api.TermConst, A: 0},
		{Kind: api.TermPrefix, Label: 0, A: 11},
	}
	if p.Store().Size() != len(want) {
		t.Errorf("%d terms, not %d", p.Store().Size(), len(want))
	}
	for id, x := range want {
		got, err := p.Store().Get(id)
		if err != nil || fmt.Sprint(got) != fmt.Sprint(x) {
			t.Errorf("the term %d: %v, %v, not %v", id, got, err, x)
		}
	}
	for k, id := range []int{6, 10, 12, 5} {
		body, err := p.Body(k)
		answered(t, "Body", body, err, id)
	}
}

func TestP401FaultsAreNew(t *testing.T) {
	for _, text := range []string{"", "P", "P = Q", "P = P", "!"} {
		_, one := source.Parse(text)
		_, two := source.Parse(text)
		if one == two {
			t.Errorf("Parse(%q): one fault told twice", text)
		}
	}
}

func TestP401LongLines(t *testing.T) {
	for _, piece := range []string{"+0", "|0", "[]", "+P", "|a.0", `\{}`, "[a/a]", "+a.(P)"} {
		p := parsed(t, "P=a.P\nQ=0"+strings.Repeat(piece, (api.MaxText-9)/len(piece)))
		if p.Defs() != 2 {
			t.Errorf("%d definitions", p.Defs())
		}
	}
	lines := strings.Repeat("\n", api.MaxText-7) + "P = Q\n"
	offends(t, lines, api.ErrUnknown, api.MaxText-6, 5)
}
