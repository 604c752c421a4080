package lex

import (
	"fmt"
	"reflect"
	"strings"
	"testing"

	"bolter/api"
	"bolter/fault"
)

func allBut(b int) api.Set {
	s := api.Set{^uint64(0), ^uint64(0), ^uint64(0), ^uint64(0)}
	s[b/64] &^= 1 << (b % 64)
	return s
}

func just(l string) api.Set {
	var s api.Set
	for i := range len(l) {
		s[l[i]/64] |= 1 << (l[i] % 64)
	}
	return s
}

// The lexemes of a kind, each with just the fields that the table names.

func named(at, end int, text string) api.Lexeme {
	return api.Lexeme{Kind: api.LexName, At: at, End: end, Text: text}
}

func counted(at, end, n int) api.Lexeme {
	return api.Lexeme{Kind: api.LexNumber, At: at, End: end, N: n}
}

func quoted(at, end int, text string) api.Lexeme {
	return api.Lexeme{Kind: api.LexText, At: at, End: end, Text: text}
}

func classed(at, end int, s api.Set) api.Lexeme {
	return api.Lexeme{Kind: api.LexClass, At: at, End: end, Set: s}
}

func marked(at int, text string) api.Lexeme {
	return api.Lexeme{Kind: api.LexMark, At: at, End: at + len(text), Text: text}
}

func line(at int) api.Lexeme {
	return api.Lexeme{Kind: api.LexLine, At: at, End: at + 1}
}

func same(a, b []api.Lexeme) bool {
	return len(a) == 0 && len(b) == 0 || reflect.DeepEqual(a, b)
}

// wantLexemes asks for lexemes without an error.
func wantLexemes(t *testing.T, text string, want ...api.Lexeme) {
	t.Helper()
	l, err := Lex(text)
	if !same(l, want) || err != nil {
		t.Errorf("%.60q: %+v, %v; want %+v", text, l, err, want)
	}
}

// wantRefused asks for an error that says a code and a place and nothing else, and for the lexemes ahead of it.
func wantRefused(t *testing.T, text string, code, at int, ahead ...api.Lexeme) {
	t.Helper()
	l, err := Lex(text)
	f := fault.Tell(err)
	if f.Code != code || f.At != at || f.Stage != 0 || f.Rule != 0 || len(f.Names) != 0 || !same(l, ahead) {
		t.Errorf("%.60q: %+v, %+v; want code %d at %d behind %+v", text, l, f, code, at, ahead)
	}
}

// P4.1: the lexemes

func TestLexemesOfTheChapter(t *testing.T) {
	wantLexemes(t, "let a = [x]{2} # r",
		named(0, 3, "let"), named(4, 5, "a"), marked(6, "="), classed(8, 11, just("x")), marked(11, "{"), counted(12, 13, 2), marked(13, "}"))
	wantLexemes(t, "=>=", marked(0, "=>"), marked(2, "="))
	wantLexemes(t, "a1 1a", named(0, 2, "a1"), counted(3, 4, 1), named(4, 5, "a"))
	wantLexemes(t, "99999999999", counted(0, 11, 1073741824))
	wantRefused(t, "a ; b", api.CodeSyntax, 2, named(0, 1, "a"))
	wantRefused(t, `"a`, api.CodeSyntax, 2)
	wantRefused(t, "x [a", api.CodeSyntax, 4, named(0, 1, "x"))
}

func TestEachByteAlone(t *testing.T) {
	for b := range 256 {
		text := string([]byte{byte(b)})
		switch {
		case text == " " || text == "\t" || text == "\r" || text == "#":
			wantLexemes(t, text)
		case text == "\n":
			wantLexemes(t, text, line(0))
		case text == "_" || 'a' <= b && b <= 'z' || 'A' <= b && b <= 'Z':
			wantLexemes(t, text, named(0, 1, text))
		case '0' <= b && b <= '9':
			wantLexemes(t, text, counted(0, 1, b-'0'))
		case text == ".":
			wantLexemes(t, text, classed(0, 1, allBut('\n')))
		case strings.Contains("()|*+?{},/<>=", text):
			wantLexemes(t, text, marked(0, text))
		case text == `"` || text == "[": // what they begin is cut short
			wantRefused(t, text, api.CodeSyntax, 1)
		default:
			wantRefused(t, text, api.CodeSyntax, 0)
			wantRefused(t, "a\n "+text+" b", api.CodeSyntax, 3, named(0, 1, "a"), line(1))
		}
	}
}

func TestNothing(t *testing.T) {
	for _, text := range []string{"", " ", " \t\r\r", "#", "##", "# a [ \" ;", "#\r", " # \xff\xc3", "#" + strings.Repeat("\xc3", api.MaxFile-1)} {
		wantLexemes(t, text)
	}
}

func TestWhatIsPassed(t *testing.T) {
	wantLexemes(t, " \ta\rb\t c ", named(2, 3, "a"), named(4, 5, "b"), named(7, 8, "c"))
	wantLexemes(t, "\r\n", line(1))
	wantLexemes(t, "\n\n", line(0), line(1))
	wantLexemes(t, "a#b\nc", named(0, 1, "a"), line(3), named(4, 5, "c"))
	wantLexemes(t, "#\n#\n", line(1), line(3))
	wantLexemes(t, "# a # b\n", line(7))
	wantLexemes(t, "# \"[\\;\x00\r\n1", line(8), counted(9, 10, 1))
	wantLexemes(t, "#é\xff\xf0\x9f\nb", line(6), named(7, 8, "b"))
	// Within a class and a quoted text # is a byte like another.
	wantLexemes(t, `[#]"#"=`, classed(0, 3, just("#")), quoted(3, 6, "#"), marked(6, "="))
	for _, text := range []string{"\v", "\f", "\x00", "\x85", "\xa0"} {
		wantRefused(t, "a"+text, api.CodeSyntax, 1, named(0, 1, "a"))
	}
}

func TestNames(t *testing.T) {
	const letters = "abcdefghijklmnopqrstuvwxyzABCDEF"
	for _, name := range []string{"a", "Z", "_", "__", "_0", "a0", "A_z9", "let", "rule", "x41", "e", letters, letters[:31], "GHIJKLMNOPQRSTUVWXYZ_0123456789", strings.Repeat("_", api.MaxName)} {
		wantLexemes(t, name, named(0, len(name), name))
		wantLexemes(t, " "+name+"=", named(1, 1+len(name), name), marked(1+len(name), "="))
		wantLexemes(t, name+"[]", named(0, len(name), name), classed(len(name), len(name)+2, api.Set{}))
	}
	for _, more := range []string{"g", "0", "_", "g0_", strings.Repeat("z", 1000)} {
		wantRefused(t, letters+more, api.CodeSyntax, 0)
		wantRefused(t, "1 "+letters+more+" ;", api.CodeSyntax, 2, counted(0, 1, 1))
		wantRefused(t, "1"+letters+more, api.CodeSyntax, 1, counted(0, 1, 1))
	}
	for _, behind := range []string{"-", ";", "é", "\xc3", "\x7f", "'"} {
		wantRefused(t, "a"+behind, api.CodeSyntax, 1, named(0, 1, "a"))
		// What a name ends at is not counted with it.
		wantRefused(t, letters+behind, api.CodeSyntax, len(letters), named(0, len(letters), letters))
	}
}

func TestNumbers(t *testing.T) {
	for digits, n := range map[string]int{
		"0": 0, "00": 0, "7": 7, "007": 7, "10": 10, "100": 100, "65536": 65536, "1234567890": 1073741824,
		"1073741822": 1073741822, "1073741823": 1073741823, "1073741824": 1073741824, "1073741825": 1073741824,
		"0000000000000000000000000000000000000000000000000012": 12,
		"2147483648": 1073741824, "4294967296": 1073741824, "9223372036854775807": 1073741824, "9223372036854775808": 1073741824,
		"18446744073709551616": 1073741824, "18446744073709551617": 1073741824,
		strings.Repeat("9", api.MaxFile/2): 1073741824, "1" + strings.Repeat("0", api.MaxFile/2): 1073741824,
	} {
		wantLexemes(t, digits, counted(0, len(digits), n))
		wantLexemes(t, "{"+digits+",", marked(0, "{"), counted(1, 1+len(digits), n), marked(1+len(digits), ","))
	}
	wantLexemes(t, "1_", counted(0, 1, 1), named(1, 2, "_"))
	wantLexemes(t, "0x41", counted(0, 1, 0), named(1, 4, "x41"))
	wantLexemes(t, "1 2", counted(0, 1, 1), counted(2, 3, 2))
	wantLexemes(t, "1.2", counted(0, 1, 1), classed(1, 2, allBut('\n')), counted(2, 3, 2))
	wantLexemes(t, "+1", marked(0, "+"), counted(1, 2, 1))
	wantRefused(t, "-1", api.CodeSyntax, 0)
	wantRefused(t, "1\xd9\xa1", api.CodeSyntax, 1, counted(0, 1, 1)) // a digit, but no byte of 0 to 9
}

func TestQuotedTexts(t *testing.T) {
	wantLexemes(t, `""`, quoted(0, 2, ""))
	wantLexemes(t, `"a""b"`, quoted(0, 3, "a"), quoted(3, 6, "b"))
	wantLexemes(t, `a"\"\n\x41"b`, named(0, 1, "a"), quoted(1, 11, "\"\nA"), named(11, 12, "b"))
	wantLexemes(t, "\"é\xc3\"=", quoted(0, 5, "é\xc3"), marked(5, "="))
	wantLexemes(t, "\"\xf0\x9f\"a", quoted(0, 4, "\xf0\x9f"), named(4, 5, "a"))
	wantLexemes(t, "\"\t =>[a] # let\"", quoted(0, 15, "\t =>[a] # let"))
	long := strings.Repeat("n", 1000)
	wantLexemes(t, `"`+long+`"`, quoted(0, 1002, long))
	for text, at := range map[string]int{`"`: 1, `"\`: 1, `"\q"`: 1, "\"a\nb\"": 2, `"a\"`: 4, `"ab\x4`: 3, "\"\xc3": 2} {
		wantRefused(t, text, api.CodeSyntax, at)
		wantRefused(t, "a=>"+text, api.CodeSyntax, 3+at, named(0, 1, "a"), marked(1, "=>"))
	}
}

func TestClasses(t *testing.T) {
	wantLexemes(t, "[]", classed(0, 2, api.Set{}))
	wantLexemes(t, "[a][b]", classed(0, 3, just("a")), classed(3, 6, just("b")))
	wantLexemes(t, "x[a-d--[b]]*", named(0, 1, "x"), classed(1, 11, just("acd")), marked(11, "*"))
	wantLexemes(t, "[[:digit:]&&[5-z]]", classed(0, 18, just("56789")))
	wantLexemes(t, "[^\xc3]y", classed(0, 4, allBut(0xc3)), named(4, 5, "y"))
	wantLexemes(t, "[\xc3\xa9]", classed(0, 4, just("\xc3\xa9")))
	wantLexemes(t, `["#.]`, classed(0, 5, just(`"#.`)))
	wantLexemes(t, "..", classed(0, 1, allBut('\n')), classed(1, 2, allBut('\n')))
	wantLexemes(t, ".*", classed(0, 1, allBut('\n')), marked(1, "*"))
	for text, at := range map[string]int{"[": 1, "[a": 2, "[c-a]": 3, `[\q]`: 1, "[a\n]": 2, "[[:foo:]]": 1, "[a--b]": 4, "[[": 1} {
		wantRefused(t, text, api.CodeSyntax, at)
		wantRefused(t, "a=>"+text, api.CodeSyntax, 3+at, named(0, 1, "a"), marked(1, "=>"))
	}
	wantRefused(t, "]", api.CodeSyntax, 0)
	wantRefused(t, "[a]]", api.CodeSyntax, 3, classed(0, 3, just("a")))
}

func TestDeepClasses(t *testing.T) {
	open, shut := strings.Repeat("[--", api.MaxDeep-1), strings.Repeat("]", api.MaxDeep-1)
	deepest := open + "[]" + shut
	wantLexemes(t, deepest+deepest, classed(0, len(deepest), api.Set{}), classed(len(deepest), 2*len(deepest), api.Set{}))
	wantRefused(t, "a "+open+"[--[]]"+shut, api.CodeDeep, 2+3*api.MaxDeep, named(0, 1, "a"))
	wantRefused(t, "a "+open+"[--;", api.CodeSyntax, 2+3*api.MaxDeep, named(0, 1, "a"))
}

func TestMarks(t *testing.T) {
	all := "()|*+?{},/<>"
	var want []api.Lexeme
	for i := range len(all) {
		want = append(want, marked(i, all[i:i+1]))
	}
	wantLexemes(t, all, want...)
	wantLexemes(t, "=>", marked(0, "=>"))
	wantLexemes(t, "= >", marked(0, "="), marked(2, ">"))
	wantLexemes(t, "=\n>", marked(0, "="), line(1), marked(2, ">"))
	wantLexemes(t, "==>", marked(0, "="), marked(1, "=>"))
	wantLexemes(t, "=>>", marked(0, "=>"), marked(2, ">"))
	wantLexemes(t, "=>=>", marked(0, "=>"), marked(2, "=>"))
	wantLexemes(t, "==", marked(0, "="), marked(1, "="))
	wantLexemes(t, ">=", marked(0, ">"), marked(1, "="))
	wantLexemes(t, "*>", marked(0, "*"), marked(1, ">"))
	wantLexemes(t, "**", marked(0, "*"), marked(1, "*"))
}

// P4.1: the refusals

func TestTheLeastPlaceIsRefused(t *testing.T) {
	long := strings.Repeat("a", api.MaxName+1)
	wantRefused(t, "; \" [ "+long, api.CodeSyntax, 0)
	wantRefused(t, "a\n"+long+" ;", api.CodeSyntax, 2, named(0, 1, "a"), line(1))
	wantRefused(t, "\"\n; "+long, api.CodeSyntax, 1)
	wantRefused(t, "[a; \"-]", api.CodeSyntax, 6)
	wantRefused(t, "!"+strings.Repeat("[--", 99), api.CodeSyntax, 0)
	wantRefused(t, strings.Repeat("[--", 99)+long, api.CodeDeep, 3*api.MaxDeep)
	wantRefused(t, "# ;\n!", api.CodeSyntax, 4, line(3))
}

func TestRunesThatAreNoAscii(t *testing.T) {
	for _, r := range []string{"é", "\u017f", "\u212a", "٣", "\u0600", "\u2028", "\ufeff", "\ufffd", "\U0001f600", "\xff", "\xc3", "\xe2\x80", "\xed\xa0\x80", "\x80a"} {
		wantRefused(t, r, api.CodeSyntax, 0)
		wantRefused(t, "a="+r, api.CodeSyntax, 2, named(0, 1, "a"), marked(1, "="))
		wantRefused(t, "[\xc3]"+r, api.CodeSyntax, 3, classed(0, 3, just("\xc3")))
		wantRefused(t, "#"+r+"\n"+r, api.CodeSyntax, 2+len(r), line(1+len(r)))
	}
}

func TestLongTexts(t *testing.T) {
	blanks := strings.Repeat(" ", api.MaxFile-1)
	wantLexemes(t, blanks+"a", named(api.MaxFile-1, api.MaxFile, "a"))
	wantLexemes(t, "a"+blanks, named(0, 1, "a"))
	wantRefused(t, blanks+";", api.CodeSyntax, api.MaxFile-1)
	wantRefused(t, blanks+"\"", api.CodeSyntax, api.MaxFile)
	// Ahead of each other refusal, and beside it there are no lexemes.
	for _, text := range []string{"a " + blanks, "; " + blanks, "\"\n" + blanks, strings.Repeat("[--", api.MaxFile), strings.Repeat("a", 1<<20), "#" + strings.Repeat("\n", api.MaxFile)} {
		wantRefused(t, text, api.CodeLong, 0)
	}
	lines := strings.Repeat("\n", api.MaxFile)
	if l, err := Lex(lines); len(l) != api.MaxFile || err != nil || l[api.MaxFile-1] != line(api.MaxFile-1) {
		t.Errorf("%d lines: %d, %v", api.MaxFile, len(l), err)
	}
	wantRefused(t, strings.Repeat("[", api.MaxFile), api.CodeSyntax, 1)
}

func TestErrorsWrapTheirs(t *testing.T) {
	for text, want := range map[string]string{
		"a ;":                        "at 2: syntax",
		"[--" + "[c-a]":              "at 6: syntax",
		strings.Repeat("[--", 99):    "at 120: too deep",
		strings.Repeat(" ", 1<<16+1): "too long",
		strings.Repeat("n", 33):      "at 0: syntax",
	} {
		if _, err := Lex(text); fault.Text(err) != want {
			t.Errorf("%.40q: %s, want %s", text, fault.Text(err), want)
		}
	}
}

// P4.1 by the table, for many texts

func TestAllShortTexts(t *testing.T) {
	const alphabet = "a_19 \n#\"\\[].=>;\xc3\xa9"
	texts := []string{""}
	for range 4 {
		var next []string
		for _, text := range texts {
			compareWithTable(t, text)
			for i := range len(alphabet) {
				next = append(next, text+alphabet[i:i+1])
			}
		}
		texts = next
	}
	for _, text := range texts {
		compareWithTable(t, text)
	}
}

func TestTextsOfPieces(t *testing.T) {
	for _, text := range texts(20000) {
		compareWithTable(t, text)
	}
}

func compareWithTable(t *testing.T, text string) {
	t.Helper()
	want, code, at := byTable(text)
	l, err := Lex(text)
	if f := fault.Tell(err); !same(l, want) || f.Code != code || f.At != at {
		t.Fatalf("%q: %+v, %+v; by the table %+v, code %d at %d", text, l, f, want, code, at)
	}
}

// texts are made of pieces by a plain row of numbers: the same at every run.
func texts(count int) []string {
	pieces := []string{"a", "let", "b9_", "_", "0", "12", "1073741825", " ", "\t", "\r", "\n", "\n", "#", "# r", "é", "\xff",
		`"a"`, `""`, `"\"#"`, `"\x4"`, `"`, "\\", "[a-z]", "[^\n]", "[^a]", "[", "]", "[[:digit:]]", "[c-a]", "[a--[b]]", ".",
		"(", ")", "|", "*", "+", "?", "{", "}", ",", "/", "<", ">", "=", "=>", "=>", ";", "-", strings.Repeat("n", 16), strings.Repeat("[--", 30)}
	x := uint64(11)
	var l []string
	for range count {
		text := ""
		for range 1 + x>>40%12 {
			x = x*6364136223846793005 + 1442695040888963407
			text += pieces[x>>33%uint64(len(pieces))]
		}
		l = append(l, text)
	}
	return l
}

// P4.2

func TestLexemesRise(t *testing.T) {
	for _, text := range texts(5000) {
		l, err := Lex(text)
		until := len(text)
		if err != nil {
			until = fault.Tell(err).At
		}
		end := 0
		for _, x := range l {
			if x.At < end || x.End <= x.At || x.End > until {
				t.Fatalf("%q: %+v in %+v", text, x, l)
			}
			wantPassed(t, text, end, x.At)
			end = x.End
		}
		if err == nil {
			wantPassed(t, text, end, len(text))
		}
	}
}

// wantPassed asks that only blanks, tabs, CRs and remarks stand at a place of a text, and that a remark ends with its line.
func wantPassed(t *testing.T, text string, from, to int) {
	t.Helper()
	ahead, remark, _ := strings.Cut(text[from:to], "#")
	if strings.Trim(ahead, " \t\r") != "" || strings.Contains(remark, "\n") {
		t.Errorf("%q: passed from %d to %d", text, from, to)
	}
	if strings.Contains(text[from:to], "#") && to < len(text) && text[to] != '\n' {
		t.Errorf("%q: a remark ends at %d", text, to)
	}
}

func TestWhatStandsBehindChangesNothingAhead(t *testing.T) {
	behind := []string{"", " ", "a", "0", "\n", "=", ">", "\"", "[", "]", "#", ";", "\xc3", "\xa9", "x;\n[a] \"b\" => y"}
	for _, text := range texts(3000) {
		l, err := Lex(text)
		if err == nil && len(l) > 0 {
			l = l[:len(l)-1] // the last one may go on
		}
		for _, b := range behind {
			longer, _ := Lex(text + b)
			if len(longer) < len(l) || !same(longer[:len(l)], l) {
				t.Fatalf("%q with %q behind it: %+v, want first %+v", text, b, longer, l)
			}
		}
	}
}

func TestTextsCutAtAnEnd(t *testing.T) {
	for _, text := range texts(5000) {
		l, _ := Lex(text)
		for i, x := range l {
			wantLexemes(t, text[:x.End], l[:i+1]...)
		}
	}
}

// P4.3

func TestAnswersAreOnesOwn(t *testing.T) {
	for _, text := range []string{"let a = [x]{2} # r\n", "a \"b\" .;", "\"a", ";"} {
		l, err := Lex(text)
		first := fmt.Sprintf("%+v %s", l, fault.Text(err))
		for i := range l {
			l[i] = api.Lexeme{Kind: 99, At: -1, End: -1, Text: "gone", N: 7, Set: allBut(0)}
		}
		l = append(l, api.Lexeme{})
		Lex("[--[")
		Lex(strings.Repeat("a\n", api.MaxFile))
		l, err = Lex(text)
		if again := fmt.Sprintf("%+v %s", l, fault.Text(err)); again != first {
			t.Errorf("%q, asked again: %s, first %s", text, again, first)
		}
	}
}

func TestAnythingEnds(t *testing.T) {
	every := make([]byte, 256)
	for b := range every {
		every[b] = byte(b)
	}
	for b := range 256 {
		one := string(every[b : b+1])
		for _, text := range []string{strings.Repeat(one, api.MaxFile), one + string(every), string(every[b:]), "[" + strings.Repeat(one, api.MaxFile-1), `"` + strings.Repeat(one, api.MaxFile-1), "#" + strings.Repeat(one, api.MaxFile-1)} {
			l, err := Lex(text)
			if err != nil && fault.Code(err) != api.CodeSyntax {
				t.Errorf("byte %d: %d lexemes, %v", b, len(l), err)
			}
		}
	}
}
