package lexis_test

import (
	"errors"
	"fmt"
	"reflect"
	"regexp"
	"slices"
	"strings"
	"testing"

	"semblance/api"
	"semblance/lexis"
)

const marks = "=+|.\\{}[](),/'<>~&-:;"

// words tells words as a text: kinds by a letter, texts, places.
func words(l []api.Token) string {
	var out []string
	for _, w := range l {
		kind := "?"
		switch w.Kind {
		case api.TokenEnd:
			kind = "end"
		case api.TokenName:
			kind = "name"
		case api.TokenNumber:
			kind = "number"
		case api.TokenMark:
			kind = "mark"
		}
		out = append(out, fmt.Sprintf("%s %q %d:%d", kind, w.Text, w.Line, w.Col))
	}
	return strings.Join(out, ", ")
}

// refused fails, unless err is a fault of lexis that wraps just want, at that place.
func refused(t *testing.T, what string, err, want error, line, col int) {
	t.Helper()
	f, ok := err.(*api.Fault)
	if !ok {
		t.Errorf("%s: %v, not a *api.Fault", what, err)
		return
	}
	if *f != (api.Fault{Layer: "lexis", Line: line, Col: col, Err: want}) {
		t.Errorf("%s: %+v, not %v at %d:%d", what, *f, want, line, col)
	}
	if !errors.Is(err, want) {
		t.Errorf("%s: errors.Is does not find %v", what, want)
	}
}

func TestP101Words(t *testing.T) {
	for _, c := range []struct{ text, want string }{
		{"", ""},
		{"P = a.0 # x\n\n12", `name "P" 1:1, mark "=" 1:3, name "a" 1:5, mark "." 1:6, number "0" 1:7, end "\n" 1:12, number "12" 3:1, end "\n" 3:3`},
		{"a", `name "a" 1:1, end "\n" 1:2`},
		{"a\n", `name "a" 1:1, end "\n" 1:2`},
		{"a\nb\n", `name "a" 1:1, end "\n" 1:2, name "b" 2:1, end "\n" 2:2`},
		{"aZ_09b Q_ tau", `name "aZ_09b" 1:1, name "Q_" 1:8, name "tau" 1:11, end "\n" 1:14`},
		{"a1 10 0", `name "a1" 1:1, number "10" 1:4, number "0" 1:7, end "\n" 1:8`},
		{"a.b'c", `name "a" 1:1, mark "." 1:2, name "b" 1:3, mark "'" 1:4, name "c" 1:5, end "\n" 1:6`},
		{"-1<>0", `mark "-" 1:1, number "1" 1:2, mark "<" 1:3, mark ">" 1:4, number "0" 1:5, end "\n" 1:6`},
	} {
		got, err := lexis.Scan(c.text)
		if err != nil || words(got) != c.want {
			t.Errorf("Scan(%q): %s, %v, not %s", c.text, words(got), err, c.want)
		}
	}
}

func TestP101BlanksRemarksAndEnds(t *testing.T) {
	for _, c := range []struct{ text, want string }{
		{" \t\r", ""},
		{"\n \n\t\r\n", ""},
		{"#", ""},
		{"# a\n#b", ""},
		{"#\xff\x00!?\"", ""},
		{" \t\ra", `name "a" 1:4, end "\n" 1:5`},
		{"a \t\r", `name "a" 1:1, end "\n" 1:5`},
		{"a\r\nb\r\n", `name "a" 1:1, end "\n" 1:3, name "b" 2:1, end "\n" 2:3`},
		{"a#b#c\nd", `name "a" 1:1, end "\n" 1:6, name "d" 2:1, end "\n" 2:2`},
		{"a #", `name "a" 1:1, end "\n" 1:4`},
		{"a#\xc3\xa4 \n", `name "a" 1:1, end "\n" 1:6`},
		{"12# 0!\n", `number "12" 1:1, end "\n" 1:7`},
		{"\n\n  a\n#!\n\n b", `name "a" 3:3, end "\n" 3:4, name "b" 6:2, end "\n" 6:3`},
	} {
		got, err := lexis.Scan(c.text)
		if err != nil || words(got) != c.want {
			t.Errorf("Scan(%q): %s, %v, not %s", c.text, words(got), err, c.want)
		}
	}
}

func TestP101EveryByte(t *testing.T) {
	for i := range 256 {
		b := byte(i)
		text := string([]byte{b})
		got, err := lexis.Scan(text)
		kind := 0
		switch {
		case 'a' <= b && b <= 'z', 'A' <= b && b <= 'Z':
			kind = api.TokenName
		case '0' <= b && b <= '9':
			kind = api.TokenNumber
		case strings.IndexByte(marks, b) >= 0:
			kind = api.TokenMark
		case strings.IndexByte(" \t\r\n#", b) >= 0:
			if err != nil || len(got) != 0 {
				t.Errorf("Scan of byte %d: %v, %v, not nothing", i, got, err)
			}
			continue
		default:
			refused(t, fmt.Sprintf("Scan of byte %d", i), err, api.ErrWord, 1, 1)
			continue
		}
		want := []api.Token{{Kind: kind, Text: text, Line: 1, Col: 1}, {Kind: api.TokenEnd, Text: "\n", Line: 1, Col: 2}}
		if err != nil || !slices.Equal(got, want) {
			t.Errorf("Scan of byte %d: %v, %v, not %v", i, got, err, want)
		}
	}
}

func TestP101MarksStandAlone(t *testing.T) {
	got, err := lexis.Scan(marks + marks)
	if err != nil || len(got) != 2*len(marks)+1 {
		t.Fatalf("%d words, %v", len(got), err)
	}
	for i, w := range got[:2*len(marks)] {
		want := api.Token{Kind: api.TokenMark, Text: marks[i%len(marks) : i%len(marks)+1], Line: 1, Col: i + 1}
		if w != want {
			t.Errorf("%v, not %v", w, want)
		}
	}
}

func TestP101Refused(t *testing.T) {
	long := strings.Repeat("b", api.MaxName+1)
	for _, c := range []struct {
		text      string
		err       error
		line, col int
	}{
		{"a 012", api.ErrWord, 1, 3},
		{"a\n 1a", api.ErrWord, 2, 2},
		{"a!", api.ErrWord, 1, 2},
		{"_a", api.ErrWord, 1, 1},
		{"0_", api.ErrWord, 1, 1},
		{"00", api.ErrWord, 1, 1},
		{"0a", api.ErrWord, 1, 1},
		{"1_0", api.ErrWord, 1, 1},
		{"a\x00", api.ErrWord, 1, 2},
		{"a\v", api.ErrWord, 1, 2},
		{"a\u00a0b", api.ErrWord, 1, 2},
		{"# !\n\n a = \xff", api.ErrWord, 3, 6},
		{"a # !\r\n\t\r\xe4", api.ErrWord, 2, 3},
		{"1073741825", api.ErrLong, 1, 1},
		{"a\n 2000000000", api.ErrLong, 2, 2},
		{"18446744073709551616", api.ErrLong, 1, 1},
		{"18446744073709551617.0", api.ErrLong, 1, 1},
		{strings.Repeat("9", api.MaxText), api.ErrLong, 1, 1},
		{strings.Repeat("9", 99) + "a", api.ErrWord, 1, 1},
		{"0" + strings.Repeat("9", 99), api.ErrWord, 1, 1},
		{long, api.ErrLong, 1, 1},
		{"a\n " + long, api.ErrLong, 2, 2},
		{"B" + strings.Repeat("_", api.MaxName), api.ErrLong, 1, 1},
		// The error that stands first.
		{"! " + long, api.ErrWord, 1, 1},
		{long + " !", api.ErrLong, 1, 1},
		{"00 1073741825", api.ErrWord, 1, 1},
		{"1073741825 00", api.ErrLong, 1, 1},
		{"a\n!\n?", api.ErrWord, 2, 1},
	} {
		got, err := lexis.Scan(c.text)
		refused(t, fmt.Sprintf("Scan(%.40q)", c.text), err, c.err, c.line, c.col)
		if len(got) != 0 {
			t.Errorf("Scan(%.40q): %d words beside an error", c.text, len(got))
		}
	}
}

func TestP101Limits(t *testing.T) {
	name := strings.Repeat("aZ_9", api.MaxName/4)
	got, err := lexis.Scan(name + " 1073741824")
	want := fmt.Sprintf(`name %q 1:1, number "1073741824" 1:34, end "\n" 1:44`, name)
	if err != nil || words(got) != want {
		t.Errorf("%s, %v, not %s", words(got), err, want)
	}
	for _, fill := range []string{" ", "\n", "#", "+"} {
		text := strings.Repeat(fill, api.MaxText-1) + "a"
		if _, err := lexis.Scan(text); err != nil {
			t.Errorf("MaxText bytes, with %q: %v", fill, err)
		}
		got, err := lexis.Scan(text + " ")
		refused(t, "MaxText + 1 bytes", err, api.ErrLong, 0, 0)
		if len(got) != 0 {
			t.Errorf("%d words beside an error", len(got))
		}
	}
	got, err = lexis.Scan(strings.Repeat("\n", api.MaxText-1) + "a")
	if want := fmt.Sprintf(`name "a" %d:1, end "\n" %d:2`, api.MaxText, api.MaxText); err != nil || words(got) != want {
		t.Errorf("%s, %v, not %s", words(got), err, want)
	}
	got, err = lexis.Scan("a" + strings.Repeat(" ", api.MaxText-1))
	if want := fmt.Sprintf(`name "a" 1:1, end "\n" 1:%d`, api.MaxText+1); err != nil || words(got) != want {
		t.Errorf("%s, %v, not %s", words(got), err, want)
	}
	_, err = lexis.Scan("!" + strings.Repeat(" ", api.MaxText))
	refused(t, "too long, and a wrong byte in it", err, api.ErrLong, 0, 0)
}

func TestP101FaultsAreNew(t *testing.T) {
	_, a := lexis.Scan("!")
	_, b := lexis.Scan("!")
	if a == b {
		t.Error("one fault told twice")
	}
}

// scanned is what Scan should tell, worked out line by line with patterns.
func scanned(text string) ([]api.Token, error) {
	word := regexp.MustCompile(`^(?:([A-Za-z][A-Za-z0-9_]*)|([0-9][A-Za-z0-9_]*)|([=+|.\\{}\[\](),/'<>~&\-:;]))`)
	plain := regexp.MustCompile(`^(?:0|[1-9][0-9]*)$`)
	var out []api.Token
	for i, line := range strings.Split(text, "\n") {
		said, _, _ := strings.Cut(line, "#")
		before := len(out)
		for at := 0; at < len(said); {
			if strings.IndexByte(" \t\r", said[at]) >= 0 {
				at++
				continue
			}
			m := word.FindStringSubmatch(said[at:])
			switch {
			case m == nil, m[2] != "" && !plain.MatchString(m[2]):
				return nil, &api.Fault{Layer: "lexis", Line: i + 1, Col: at + 1, Err: api.ErrWord}
			case len(m[1]) > 32, len(m[2]) > 10, len(m[2]) == 10 && m[2] > "1073741824":
				return nil, &api.Fault{Layer: "lexis", Line: i + 1, Col: at + 1, Err: api.ErrLong}
			}
			kind := api.TokenMark
			if m[1] != "" {
				kind = api.TokenName
			} else if m[2] != "" {
				kind = api.TokenNumber
			}
			out = append(out, api.Token{Kind: kind, Text: m[0], Line: i + 1, Col: at + 1})
			at += len(m[0])
		}
		if len(out) > before {
			out = append(out, api.Token{Kind: api.TokenEnd, Text: "\n", Line: i + 1, Col: len(line) + 1})
		}
	}
	return out, nil
}

// eachText gives every text of at most n of these pieces.
func eachText(pieces []string, n int, give func(string)) {
	var grow func(string, int)
	grow = func(text string, left int) {
		give(text)
		if left == 0 {
			return
		}
		for _, p := range pieces {
			grow(text+p, left-1)
		}
	}
	grow("", n)
}

func TestP101AllShortTexts(t *testing.T) {
	pieces := []string{"a", "B", "0", "1", "_", " ", "\r", "\n", "#", "+", "!", "107374182", strings.Repeat("c", 31)}
	eachText(pieces, 4, func(text string) {
		got, err := lexis.Scan(text)
		want, wrong := scanned(text)
		if !slices.Equal(got, want) || !reflect.DeepEqual(err, wrong) {
			t.Fatalf("Scan(%q): %s, %+v, not %s, %+v", text, words(got), err, words(want), wrong)
		}
	})
}

func TestP102Lines(t *testing.T) {
	end := api.Token{Kind: api.TokenEnd, Text: "\n"}
	a, b, c := api.Token{Kind: api.TokenName, Text: "a"}, api.Token{Kind: api.TokenNumber, Text: "1"}, api.Token{Kind: api.TokenMark, Text: "\n", Line: -1}
	type list = []api.Token
	for _, x := range []struct {
		in   list
		want []list
	}{
		{nil, nil},
		{list{}, nil},
		{list{end}, []list{{}}},
		{list{end, end}, []list{{}, {}}},
		{list{a}, []list{{a}}},
		{list{a, end}, []list{{a}}},
		{list{a, b, end, c, end}, []list{{a, b}, {c}}},
		{list{a, end, b, c}, []list{{a}, {b, c}}},
		{list{end, a, end, end, b}, []list{{}, {a}, {}, {b}}},
		{list{{Kind: 77}, {}, end, {Kind: -1}}, []list{{{Kind: 77}, {}}, {{Kind: -1}}}},
	} {
		got := lexis.Lines(x.in)
		if !slices.EqualFunc(got, x.want, func(p, q list) bool { return slices.Equal(p, q) }) {
			t.Errorf("Lines(%v): %v, not %v", x.in, got, x.want)
		}
	}
	scanned, err := lexis.Scan("a b # x\n\n# y\n c")
	lines := lexis.Lines(scanned)
	if err != nil || len(lines) != 2 || words(lines[0]) != `name "a" 1:1, name "b" 1:3` || words(lines[1]) != `name "c" 4:2` {
		t.Errorf("%v, %v", lines, err)
	}
}

func TestP102LinesAreNewMemory(t *testing.T) {
	in, err := lexis.Scan("a b\nc\nd e")
	if err != nil {
		t.Fatal(err)
	}
	in = append(in, api.Token{Kind: api.TokenEnd}, api.Token{Kind: api.TokenName, Text: "f"})
	spare := append(slices.Clone(in), in...)
	before := slices.Clone(spare)
	lines := lexis.Lines(spare[:len(in)])
	told := lexis.Lines(in)
	for i := range lines {
		for j := range lines[i] {
			lines[i][j].Text = "x"
		}
		_ = append(lines[i], api.Token{Text: "more"})
		for k := i + 1; k < len(lines); k++ {
			if !slices.Equal(lines[k], told[k]) {
				t.Errorf("line %d changed with line %d", k, i)
			}
		}
	}
	if !slices.Equal(spare, before) {
		t.Error("the argument changed")
	}
}

func TestP102Number(t *testing.T) {
	for text, want := range map[string]int{"0": 0, "1": 1, "9": 9, "10": 10, "1000000007": 1000000007, "1073741823": 1<<30 - 1, "1073741824": 1 << 30} {
		if n, err := lexis.Number(text); err != nil || n != want {
			t.Errorf("Number(%q): %d, %v, not %d", text, n, err, want)
		}
	}
	for _, text := range []string{"", "00", "01", "-1", "+1", "1 ", " 1", "1\n", "1a", "a", "1_0", "_", "1.0", "0x1", "\xff", "1#", "\u0661", "1073741825a", "01073741825"} {
		n, err := lexis.Number(text)
		refused(t, fmt.Sprintf("Number(%q)", text), err, api.ErrWord, 0, 0)
		if n != 0 {
			t.Errorf("Number(%q): %d beside an error", text, n)
		}
	}
	for _, text := range []string{"1073741825", "1073741830", "2147483648", "4294967296", "9223372036854775808", "18446744073709551616", "18446744073709551617", "1" + strings.Repeat("0", 2*api.MaxText)} {
		n, err := lexis.Number(text)
		refused(t, fmt.Sprintf("Number(%.40q)", text), err, api.ErrLong, 0, 0)
		if n != 0 {
			t.Errorf("Number(%.40q): %d beside an error", text, n)
		}
	}
}

func TestP102NamesAndConsts(t *testing.T) {
	rest := strings.Repeat("Z", api.MaxName-1)
	for _, c := range []struct {
		text          string
		name, isConst bool
	}{
		{"a", true, false},
		{"z", true, false},
		{"a_1", true, false},
		{"aB_", true, false},
		{"tau", true, false},
		{"A", false, true},
		{"Z", false, true},
		{"P", false, true},
		{"Pa_0", false, true},
		{"a" + rest, true, false},
		{"A" + rest, false, true},
		{"a" + rest + "Z", false, false},
		{"A" + rest + "Z", false, false},
		{"", false, false},
		{"_", false, false},
		{"_a", false, false},
		{"0", false, false},
		{"1a", false, false},
		{"a b", false, false},
		{" a", false, false},
		{"a\n", false, false},
		{"P ", false, false},
		{"P#", false, false},
		{"a'", false, false},
		{"'a", false, false},
		{"a\xff", false, false},
		{"\xe4", false, false},
		{"\u00e4", false, false},
		{"P\u00c4", false, false},
		{"`", false, false},
		{"{", false, false},
		{"@", false, false},
		{"[", false, false},
	} {
		if got := lexis.IsName(c.text); got != c.name {
			t.Errorf("IsName(%q): %v", c.text, got)
		}
		if got := lexis.IsConst(c.text); got != c.isConst {
			t.Errorf("IsConst(%q): %v", c.text, got)
		}
	}
}

func TestP102AgreesWithScan(t *testing.T) {
	pieces := []string{"a", "z", "A", "0", "7", "_", " ", "#", "\n", ".", "\xff", "107374182", strings.Repeat("c", 31)}
	eachText(pieces, 4, func(text string) {
		l, err := lexis.Scan(text)
		wholly := func(kind int) bool {
			return err == nil && len(l) == 2 && l[0].Kind == kind && l[0].Text == text
		}
		small := wholly(api.TokenName) && text[0] >= 'a'
		if got := lexis.IsName(text); got != small {
			t.Fatalf("IsName(%q): %v", text, got)
		}
		if got := lexis.IsConst(text); got != (wholly(api.TokenName) && !small) {
			t.Fatalf("IsConst(%q): %v", text, got)
		}
		n, wrong := lexis.Number(text)
		if (wrong == nil) != wholly(api.TokenNumber) {
			t.Fatalf("Number(%q): %d, %v", text, n, wrong)
		}
		if wrong == nil && fmt.Sprint(n) != text {
			t.Fatalf("Number(%q): %d", text, n)
		}
	})
}
