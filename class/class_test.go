package class

import (
	"fmt"
	"math"
	"strings"
	"testing"

	"bolter/api"
	"bolter/byteset"
	"bolter/fault"
)

// where makes a set by a condition, byte by byte.
func where(in func(b int) bool) api.Set {
	var s api.Set
	for b := range 256 {
		if in(b) {
			s[b/64] |= 1 << (b % 64)
		}
	}
	return s
}

func anyOf(l string) api.Set {
	return where(func(b int) bool { return strings.IndexByte(l, byte(b)) >= 0 })
}

func span(lo, hi int) api.Set {
	return where(func(b int) bool { return lo <= b && b <= hi })
}

// wantSet asks Parse of a text, and of it with other texts ahead and behind.
func wantSet(t *testing.T, text string, want api.Set, end int) {
	t.Helper()
	for _, ahead := range []string{"", "x", "[[\\", "[a"} {
		for _, behind := range []string{"", "]", "--[a]", "x", "-z]", "&&", "\n", "\\"} {
			s, got, err := Parse(ahead+text[:end]+behind, len(ahead))
			if s != want || got != len(ahead)+end || err != nil {
				t.Errorf("%q between %q and %q: %v, %d, %v; want %v, %d", text, ahead, behind, byteset.List(s), got, err, byteset.List(want), len(ahead)+end)
			}
		}
	}
	if s, got, err := Parse(text, 0); s != want || got != end || err != nil {
		t.Errorf("%q: %v, %d, %v; want %v, %d", text, byteset.List(s), got, err, byteset.List(want), end)
	}
}

// wantPlain asks that a fault says a code and a place, and nothing else.
func wantPlain(t *testing.T, what string, err error, code, at int) {
	t.Helper()
	f := fault.Tell(err)
	if f.Code != code || f.At != at || f.Stage != 0 || f.Rule != 0 || len(f.Names) != 0 {
		t.Errorf("%s: %+v, want code %d at %d", what, f, code, at)
	}
}

func wantNoSet(t *testing.T, text string, from, code, at int) {
	t.Helper()
	s, end, err := Parse(text, from)
	if s != (api.Set{}) || end != 0 {
		t.Errorf("%.60q from %d: beside the error %v, %d", text, from, s, end)
	}
	wantPlain(t, fmt.Sprintf("%.60q from %d", text, from), err, code, at)
}

// refused asks of a text from its beginning, and behind another one.
func refused(t *testing.T, text string, code, at int) {
	t.Helper()
	wantNoSet(t, text, 0, code, at)
	wantNoSet(t, "[a]"+text, 3, code, 3+at)
}

func wantBytes(t *testing.T, text string, want string, end int) {
	t.Helper()
	for _, ahead := range []string{"", "x", "\"", "\\"} {
		s, got, err := Unquote(ahead+text, len(ahead))
		if s != want || got != len(ahead)+end || err != nil {
			t.Errorf("%q behind %q: %q, %d, %v; want %q, %d", text, ahead, s, got, err, want, len(ahead)+end)
		}
	}
}

func wantNoBytes(t *testing.T, text string, from, at int) {
	t.Helper()
	s, end, err := Unquote(text, from)
	if s != "" || end != 0 {
		t.Errorf("%q from %d: beside the error %q, %d", text, from, s, end)
	}
	wantPlain(t, fmt.Sprintf("%q from %d", text, from), err, api.CodeSyntax, at)
}

// isMark is the chapter's: from 33 to 126, neither a letter nor a digit.
func isMark(b int) bool {
	return 33 <= b && b <= 126 && !('a' <= b && b <= 'z') && !('A' <= b && b <= 'Z') && !('0' <= b && b <= '9')
}

// letters are the escapes of one letter or digit.
func letters() map[byte]byte {
	return map[byte]byte{'n': 10, 't': 9, 'r': 13, 'v': 11, 'f': 12, 'a': 7, 'b': 8, 'e': 27, '0': 0}
}

// P3.1, P3.3: a byte

func TestEscapesOfTwoBytes(t *testing.T) {
	for c := range 256 {
		b, isLetter := letters()[byte(c)]
		if isMark(c) {
			b = byte(c)
		}
		inClass, inQuotes := "[\\"+string([]byte{byte(c)})+"]", "\"\\"+string([]byte{byte(c)})+"\""
		if isLetter || isMark(c) {
			wantSet(t, inClass, span(int(b), int(b)), 4)
			wantBytes(t, inQuotes, string([]byte{b}), 4)
		} else {
			refused(t, inClass, api.CodeSyntax, 1)
			wantNoBytes(t, inQuotes, 0, 1)
		}
	}
}

func TestEscapesOfBase16(t *testing.T) {
	for b := range 256 {
		for _, form := range []string{"\\x%02x", "\\x%02X"} {
			e := fmt.Sprintf(form, b)
			wantSet(t, "["+e+"]", span(b, b), 6)
			wantBytes(t, "\""+e+"\"", string([]byte{byte(b)}), 6)
		}
	}
	wantSet(t, `[\xaF]`, span(0xaf, 0xaf), 6)
	wantSet(t, `[\x411]`, anyOf("A1"), 7)
	wantBytes(t, `"\x411"`, "A1", 7)
	for _, e := range []string{`\x`, `\x4`, `\x4g`, `\xg4`, `\x `, `\x+4`, `\x-4`, `\x4_`, `\x_4`, `\X41`, `\x/0`, `\x0:`, `\x@0`, `\x0G`, "\\x`0", `\x\4`} {
		refused(t, "["+e+"]", api.CodeSyntax, 1)
		refused(t, "[a"+e, api.CodeSyntax, 2)
		wantNoBytes(t, "\""+e+"\"", 0, 1)
		wantNoBytes(t, "\"a"+e, 0, 2)
	}
}

func TestEscapesOneBehindTheOther(t *testing.T) {
	wantSet(t, `[\a\b\t\n\v\f\r\e\0]`, where(func(b int) bool { return 7 <= b && b <= 13 || b == 27 || b == 0 }), 20)
	wantBytes(t, `"\a\b\t\n\v\f\r\e\0"`, "\a\b\t\n\v\f\r\x1b\x00", 20)
	wantSet(t, `[\012]`, where(func(b int) bool { return b == 0 || b == '1' || b == '2' }), 6)
	wantBytes(t, `"\\n\\\n"`, "\\n\\\n", 9)
}

// P3.1: what is read

func TestParseOfTheChapter(t *testing.T) {
	wantSet(t, "[a-c]x", span('a', 'c'), 5)
	wantSet(t, "[]", api.Set{}, 2)
	wantSet(t, "[^]", span(0, 255), 3)
	wantSet(t, "[^^]", where(func(b int) bool { return b != '^' }), 4)
	wantSet(t, "[a&b]", anyOf("a&b"), 5)
	wantSet(t, "[a-z--[aeiou]]", anyOf("bcdfghjklmnpqrstvwxyz"), 14)
	wantSet(t, "[^a&&[a-c]]", anyOf("bc"), 11)
	wantSet(t, "[[:digit:]_]", anyOf("0123456789_"), 12)
	wantSet(t, `[\x41\-\]]`, anyOf("A-]"), 10)
}

func TestCharsThatStandForThemselves(t *testing.T) {
	for b := range 256 {
		text := "[" + string([]byte{byte(b)}) + "]"
		switch {
		case b == '[' || b == '-' || b == '\n':
			refused(t, text, api.CodeSyntax, 1)
		case b == '\\': // with the ] behind it an escape, so that the text ends too early
			refused(t, text, api.CodeSyntax, 3)
		case b == '^': // at the front it is no char
			wantSet(t, text, span(0, 255), 3)
		case b == ']':
			wantSet(t, text, api.Set{}, 2)
		default:
			wantSet(t, text, span(b, b), 3)
		}
	}
}

func TestItems(t *testing.T) {
	wantSet(t, "[aab]", anyOf("ab"), 5)
	wantSet(t, "[ca]", anyOf("ac"), 4)
	wantSet(t, "[a^]", anyOf("a^"), 4)
	wantSet(t, "[^a^]", where(func(b int) bool { return b != 'a' && b != '^' }), 5)
	wantSet(t, "[^^^]", where(func(b int) bool { return b != '^' }), 5)
	wantSet(t, "[a^-z]", where(func(b int) bool { return '^' <= b && b <= 'z' }), 6)
	wantSet(t, "[^^-z]", where(func(b int) bool { return b < '^' || b > 'z' }), 6)
	wantSet(t, "[&]", anyOf("&"), 3)
	wantSet(t, "[a&]", anyOf("a&"), 4)
	wantSet(t, "[:digit:]", anyOf(":digt"), 9)
	wantSet(t, "[ \t]", anyOf(" \t"), 4)
	wantSet(t, "[\x80\xff\x00]", where(func(b int) bool { return b == 0x80 || b == 0xff || b == 0 }), 5)
	wantSet(t, "[\"'()]", anyOf("\"'()"), 6)
}

func TestRanges(t *testing.T) {
	for lo := range 256 {
		for hi := range 256 {
			text := fmt.Sprintf(`[\x%02x-\x%02x]`, lo, hi)
			s, end, err := Parse(text, 0)
			if lo <= hi && (s != span(lo, hi) || end != 11 || err != nil) {
				t.Fatalf("%s: %v, %d, %v", text, s, end, err)
			}
			if lo > hi && (s != api.Set{} || end != 0 || fault.Tell(err).Code != api.CodeSyntax || fault.Tell(err).At != 6) {
				t.Fatalf("%s: %v, %d, %v", text, s, end, err)
			}
		}
	}
	wantSet(t, "[a-a]", anyOf("a"), 5)
	wantSet(t, "[a-cx-z_]", anyOf("abcxyz_"), 9)
	wantSet(t, "[a-db-f]", anyOf("abcdef"), 8)
	wantSet(t, "[!-&]", anyOf("!\"#$%&"), 5)
	wantSet(t, "[&-(]", anyOf("&'("), 5)
	wantSet(t, "[&-&&]", anyOf("&"), 6)
}

func TestRangesOfEscapes(t *testing.T) {
	wantSet(t, `[\--a]`, span('-', 'a'), 6)
	wantSet(t, `[+-\-]`, span('+', '-'), 6)
	wantSet(t, `[\a-\r]`, span(7, 13), 7)
	wantSet(t, `[\0-\xff]`, span(0, 255), 9)
	wantSet(t, `[\[-\]]`, anyOf("[\\]"), 7)
	wantSet(t, `[!-~]`, span(33, 126), 5)
	wantSet(t, "[\x00-\xff]", span(0, 255), 5)
	wantSet(t, `[\---[a]]`, anyOf("-"), 9)
}

func TestNames(t *testing.T) {
	is := func(l string, lo, hi int) func(b int) bool {
		return func(b int) bool { return strings.IndexByte(l, byte(b)) >= 0 || lo <= b && b <= hi }
	}
	lower, upper, digit := is("", 'a', 'z'), is("", 'A', 'Z'), is("", '0', '9')
	names := map[string]func(b int) bool{
		"digit":  digit,
		"lower":  lower,
		"upper":  upper,
		"alpha":  func(b int) bool { return lower(b) || upper(b) },
		"alnum":  func(b int) bool { return lower(b) || upper(b) || digit(b) },
		"word":   func(b int) bool { return lower(b) || upper(b) || digit(b) || b == '_' },
		"xdigit": func(b int) bool { return digit(b) || 'a' <= b && b <= 'f' || 'A' <= b && b <= 'F' },
		"blank":  is(" \t", 1, 0),
		"space":  is(" ", 9, 13),
		"punct":  isMark,
		"print":  is("", 32, 126),
		"cntrl":  is("\x7f", 0, 31),
		"any":    is("", 0, 255),
	}
	for name, in := range names {
		end := len("[[::]]") + len(name)
		wantSet(t, "[[:"+name+":]]", where(in), end)
		wantSet(t, "[^[:"+name+":]]", where(func(b int) bool { return !in(b) }), end+1)
		wantSet(t, "[\xfe[:"+name+":]\x01]", where(func(b int) bool { return in(b) || b == 0xfe || b == 1 }), end+2)
		refused(t, "[[:"+name+"s:]]", api.CodeSyntax, 1)
		refused(t, "[[:"+name[:len(name)-1]+":]]", api.CodeSyntax, 1)
		refused(t, "[[:"+name+"]]", api.CodeSyntax, 1)
		refused(t, "[[:"+name+":", api.CodeSyntax, 1)
		refused(t, "[[: "+name+":]]", api.CodeSyntax, 1)
		refused(t, "[[:"+name+":]-z]", api.CodeSyntax, end-1)
		refused(t, "[!-[:"+name+":]]", api.CodeSyntax, 3)
	}
	wantSet(t, "[[:digit:][:upper:]x]", where(func(b int) bool { return digit(b) || upper(b) || b == 'x' }), 21)
	wantSet(t, "[[:any:]--[[:print:]]]", where(func(b int) bool { return b < 32 || b > 126 }), 22)
	for _, text := range []string{"[[:foo:]]", "[[::]]", "[[:^digit:]]", "[[:Digit:]]", "[[:digit:", "[[:digit", "[[:", "[[:digit::]]", "[[:digit :]]", "[[:digit\n:]]"} {
		refused(t, text, api.CodeSyntax, 1)
	}
}

func TestTails(t *testing.T) {
	wantSet(t, "[--[a]]", api.Set{}, 7)
	wantSet(t, "[&&[a]]", api.Set{}, 7)
	wantSet(t, "[^--[a]]", where(func(b int) bool { return b != 'a' }), 8)
	wantSet(t, "[^&&[a]]", anyOf("a"), 8)
	wantSet(t, "[a-c--[b]]", anyOf("ac"), 10)
	wantSet(t, "[a-c&&[b-z]]", anyOf("bc"), 12)
	wantSet(t, "[a&b--[&]]", anyOf("ab"), 10)
	wantSet(t, "[[:digit:]--[5]]", anyOf("012346789"), 16)
	wantSet(t, "[a-f--[b]&&[b-e]]", anyOf("cde"), 17)
	wantSet(t, "[a-f&&[b-e]--[b]]", anyOf("cde"), 17)
	// One behind the other, from left to right: grouped from the right it would be a to d.
	wantSet(t, "[a-d--[a-c]--[a-d]]", api.Set{}, 19)
	wantSet(t, "[a-d--[a-c--[b]]]", anyOf("bd"), 17)
	wantSet(t, "[a-d--[^b]]", anyOf("b"), 11)
	// The complement is the first set's alone.
	wantSet(t, "[^a--[b]]", where(func(b int) bool { return b != 'a' && b != 'b' }), 9)
}

// P3.1: what is refused

func TestRefusedOfTheChapter(t *testing.T) {
	for text, at := range map[string]int{"[a-]": 3, "[-a]": 1, "[c-a]": 3, "[a--b]": 4, "[a": 2, `[\q]`: 1, "[[:foo:]]": 1, "[a--[b]c]": 7, "a": 0} {
		refused(t, text, api.CodeSyntax, at)
	}
}

func TestRefusedBytes(t *testing.T) {
	for text, at := range map[string]int{
		"]": 0, "^": 0, "\\[a]": 0, " [a]": 0, "\"[a]\"": 0,
		"[-]": 1, "[-": 1, "[^-a]": 2, "[^-": 2, "[a-c-e]": 4, "[a-c-": 4, `[\--]`: 4,
		"[[a]]": 1, "[[": 1, "[a[": 2, "[a[b]]": 2, "[ [:digit:]": 11, "[[ :digit:]]": 1,
		"[\n]": 1, "[a\n]": 2, "[^\n]": 2, "[\\\n]": 1, "[a-\n]": 3, "[a--\n": 4, "[a--[b]\n]": 7,
		"[a-[": 3, "[a-[b]]": 3, `[a-\q]`: 3, `[a-\`: 3, `[a-\x6]`: 3, "[a-\\\n]": 3,
		"[b-a]": 3, "[^-^]": 2, `[b-\x61]`: 3, `[\x62-a]`: 6, "[a-&&[b]]": 3, "[!-&&[a]]": 5,
		"[--]": 3, "[&&]": 3, "[a---[b]]": 4, "[a&&&[b]]": 4, "[a-- [b]]": 4, "[a--^[b]]": 4, "[a&&--[b]]": 4,
		"[a--[b]-]": 7, "[a--[b]&]": 7, "[a--[b]^]": 7, "[a--[b][c]]": 7, "[a--[b][:digit:]]": 7, "[a--[b]-": 7, "[a--[b]&": 7, `[a--[b]\]]`: 7,
		"[a--[b-]]": 7, "[a--[c-b]]": 7, `[a&&[\q]]`: 5,
	} {
		refused(t, text, api.CodeSyntax, at)
	}
}

func TestRefusedAtTheEnd(t *testing.T) {
	for _, text := range []string{"", "[", "[^", "[^^", "[a", "[a-", "[a-c", "[&", "[a&", "[a--", "[a&&", "[a--[", "[a--[b", "[a--[b]", "[a--[b]--", "[a--[b]&&[c]", "[[:digit:]", `[\]`, `[\x41`, "[^--", "[--[]"} {
		refused(t, text, api.CodeSyntax, len(text))
	}
	// What the end cuts short is refused where it begins.
	for text, at := range map[string]int{`[\`: 1, `[a\`: 2, `[\x`: 1, `[\x4`: 1, `[a-\x`: 3, "[[": 1, "[[:": 1, "[[:digit:": 1, "[-": 1} {
		refused(t, text, api.CodeSyntax, at)
	}
}

func TestPlacesThatAreNone(t *testing.T) {
	for _, at := range []int{-1, -3, 3, 4, 99, math.MaxInt, math.MinInt} {
		wantNoSet(t, "[a]", at, api.CodeSyntax, 3)
		wantNoSet(t, "", at, api.CodeSyntax, 0)
		wantNoBytes(t, "\"a\"", at, 3)
		wantNoBytes(t, "", at, 0)
	}
	for at := 1; at < 3; at++ {
		wantNoSet(t, "[a]", at, api.CodeSyntax, at)
	}
	wantNoBytes(t, "\"a\"", 1, 1)
	wantNoBytes(t, "\"a\"", 2, 3) // the second " begins a text that ends too early
}

func TestDeep(t *testing.T) {
	for _, tail := range []string{"--", "&&"} {
		open, shut := strings.Repeat("["+tail, api.MaxDeep-1), strings.Repeat("]", api.MaxDeep-1)
		wantSet(t, open+"[]"+shut, api.Set{}, len(open)+2+len(shut))
		// Behind one that has been shut there is room again.
		wantSet(t, open+"[]--[a]&&[]"+shut, api.Set{}, len(open)+11+len(shut))
		deeper := open + "[" + tail
		refused(t, deeper+"[]]"+shut, api.CodeDeep, len(deeper))
		refused(t, deeper+"[", api.CodeDeep, len(deeper))
		refused(t, deeper+"[\\q", api.CodeDeep, len(deeper))
		// Only a [ can be too deep, and only where a class is wanted.
		refused(t, deeper+"a", api.CodeSyntax, len(deeper))
		refused(t, deeper, api.CodeSyntax, len(deeper))
		refused(t, open+"[[]]", api.CodeSyntax, len(open)+1)
		wantSet(t, open+"[[:digit:]]"+shut, api.Set{}, len(open)+11+len(shut))
	}
	// What stands ahead is refused first, and what is open is counted from the class's beginning on.
	refused(t, "[\\q"+strings.Repeat("--[", 60), api.CodeSyntax, 1)
	refused(t, strings.Repeat("[--", 100), api.CodeDeep, 3*api.MaxDeep)
	wantSet(t, "[a"+strings.Repeat("--[b]", 3*api.MaxDeep)+"]", anyOf("a"), 3+15*api.MaxDeep)
}

// P3.2

func TestTextOfEachByte(t *testing.T) {
	for b := range 256 {
		want := fmt.Sprintf("[\\x%02x]", b)
		switch {
		case b == 10:
			want = `[\n]`
		case b == 9:
			want = `[\t]`
		case b == 13:
			want = `[\r]`
		case strings.IndexByte(`\[]-^&`, byte(b)) >= 0:
			want = "[\\" + string(rune(b)) + "]"
		case 33 <= b && b <= 126:
			want = "[" + string(rune(b)) + "]"
		}
		if got := Text(span(b, b)); got != want {
			t.Errorf("byte %d: %s, want %s", b, got, want)
		}
	}
}

func TestText(t *testing.T) {
	for _, c := range []struct {
		s    api.Set
		want string
	}{
		{anyOf("abc-\n"), `[\n\-a-c]`},
		{anyOf("ab"), "[ab]"},
		{api.Set{}, "[]"},
		{span(0, 255), `[\x00-\xff]`},
		{span('a', 'c'), "[a-c]"},
		{span(254, 255), `[\xfe\xff]`},
		{span(253, 255), `[\xfd-\xff]`},
		{span(9, 10), `[\t\n]`},
		{span(9, 13), `[\t-\r]`},
		{span('[', '^'), `[\[-\^]`},
		{anyOf("-."), `[\-.]`},
		{anyOf("%&"), `[%\&]`},
		{anyOf("[:"), `[:\[]`},
		{anyOf("aceg"), "[aceg]"},
		{anyOf(" !"), `[\x20!]`},
		{anyOf("~\x7f"), `[~\x7f]`},
		{where(func(b int) bool { return b != 'a' }), "[\\x00-`b-\\xff]"},
		{anyOf("\a\b\x1b\x00"), `[\x00\x07\x08\x1b]`},
	} {
		if got := Text(c.s); got != c.want {
			t.Errorf("%v: %s, want %s", byteset.List(c.s), got, c.want)
		}
	}
}

// P3.3

func TestUnquote(t *testing.T) {
	wantBytes(t, `""`, "", 2)
	wantBytes(t, `""""`, "", 2)
	wantBytes(t, `"a"`, "a", 3)
	wantBytes(t, `"a"b"`, "a", 3)
	wantBytes(t, `"a\"b"c`, `a"b`, 6)
	wantBytes(t, `"[^a-z]--&&'"`, "[^a-z]--&&'", 13)
	wantBytes(t, `"\[\]\-\'\~\!"`, `[]-'~!`, 14)
	for b := range 256 {
		text := "\"" + string([]byte{byte(b)}) + "\""
		switch b {
		case '\\':
			wantNoBytes(t, text, 0, 3)
		case '"':
			wantBytes(t, text, "", 2)
		case '\n':
			wantNoBytes(t, text, 0, 1)
		default:
			wantBytes(t, text, string([]byte{byte(b)}), 3)
		}
	}
}

func TestUnquoteRefuses(t *testing.T) {
	for text, at := range map[string]int{
		"": 0, "a": 0, "'a'": 0, " \"a\"": 0, "[a]": 0, "\\\"a\"": 0,
		"\"": 1, "\"a": 2, `"a\"`: 4, `"\x41`: 5,
		"\"\n\"": 1, "\"a\nb\"": 2, "\"a\n": 2, "\"a\n\\q\"": 2, "\"\\q\n\"": 1,
		`"\`: 1, `"a\`: 2, `"\q"`: 1, `"ab\x1g"`: 3, `"\x`: 1, `"\x4`: 1, `"\ "`: 1, "\"\\\n\"": 1, `"\1"`: 1, "\"\\\x7f\"": 1, "\"\\\x80\"": 1,
	} {
		wantNoBytes(t, text, 0, at)
		wantNoBytes(t, "\"\\\n"+text, 3, 3+at)
	}
}

// P3.4

func TestQuoteOfEachByte(t *testing.T) {
	for b := range 256 {
		want := fmt.Sprintf("\"\\x%02x\"", b)
		switch {
		case b == 10:
			want = `"\n"`
		case b == 9:
			want = `"\t"`
		case b == 13:
			want = `"\r"`
		case b == '"' || b == '\\':
			want = "\"\\" + string(rune(b)) + "\""
		case 32 <= b && b <= 126:
			want = "\"" + string(rune(b)) + "\""
		}
		if got := Quote(string([]byte{byte(b)})); got != want {
			t.Errorf("byte %d: %s, want %s", b, got, want)
		}
	}
}

func TestQuote(t *testing.T) {
	for s, want := range map[string]string{
		"":             `""`,
		"a\"\x00":      `"a\"\x00"`,
		"a b[]-^&":     `"a b[]-^&"`,
		"\\n\n":        `"\\n\n"`,
		"\x1b\x7f\xff": `"\x1b\x7f\xff"`,
		"é":            `"\xc3\xa9"`, // all is bytes
	} {
		if got := Quote(s); got != want {
			t.Errorf("%q: %s, want %s", s, got, want)
		}
	}
}

// P3.5

func samples() []api.Set {
	l := []api.Set{{}, span(0, 255)}
	for b := range 256 {
		l = append(l, span(b, b), span(b, b+1), span(b, b+2), span(0, b), where(func(x int) bool { return x != b }),
			where(func(x int) bool { return x == b || x == '-' }), where(func(x int) bool { return x == b || x == '^' || x == ']' }),
			where(func(x int) bool { return x%(b+1) == 0 }))
	}
	x := uint64(1) // a plain row of numbers: the same at every run
	for range 300 {
		var s api.Set
		for i := range s {
			x = x*6364136223846793005 + 1442695040888963407
			s[i] = x ^ x>>29
		}
		l = append(l, s)
	}
	return l
}

func TestThereAndBackOfSets(t *testing.T) {
	of := map[string]api.Set{}
	for _, s := range samples() {
		text := Text(s)
		if other, told := of[text]; told && other != s {
			t.Errorf("%v and %v have one text, %s", s, other, text)
		}
		of[text] = s
		for _, ahead := range []string{"", "[", "\\"} {
			for _, behind := range []string{"", "]", "-", "--[a]]"} {
				got, end, err := Parse(ahead+text+behind, len(ahead))
				if got != s || end != len(ahead)+len(text) || err != nil {
					t.Errorf("%s: %v, %d, %v", text, got, end, err)
				}
			}
		}
	}
}

func TestThereAndBackOfTexts(t *testing.T) {
	of := map[string]string{}
	l := []string{"", "\\x41", "A", `"`, `\"`, "\\n", "\n", "a\nb", strings.Repeat("\x00\"", 1000)}
	for a := range 256 {
		for _, b := range []byte{0, 'n', 'x', '"', '\\', '\n', ' ', 255, byte(a)} {
			l = append(l, string([]byte{byte(a), b}), string([]byte{b, byte(a)}))
		}
	}
	for _, s := range l {
		text := Quote(s)
		if other, told := of[text]; told && other != s {
			t.Errorf("%q and %q have one text, %s", s, other, text)
		}
		of[text] = s
		for _, ahead := range []string{"", "\"", "\\"} {
			for _, behind := range []string{"", "\"", "\\", "\n"} {
				got, end, err := Unquote(ahead+text+behind, len(ahead))
				if got != s || end != len(ahead)+len(text) || err != nil {
					t.Errorf("%s: %q, %d, %v", text, got, end, err)
				}
			}
		}
	}
}

// P3.6

func TestAnswersAreOnesOwn(t *testing.T) {
	for _, text := range []string{"[a-z--[b]]", "[a-]", `"ab\n"`, `"ab`} {
		s1, end1, err1 := Parse(text, 0)
		b1, bEnd1, bErr1 := Unquote(text, 0)
		for range 3 { // nothing is kept: whatever was asked between makes no difference
			Parse("[^\\q]", 0)
			Parse(strings.Repeat("[--", 99), 0)
			Unquote("\"\\", 0)
			s2, end2, err2 := Parse(text, 0)
			b2, bEnd2, bErr2 := Unquote(text, 0)
			if s1 != s2 || end1 != end2 || fault.Text(err1) != fault.Text(err2) || b1 != b2 || bEnd1 != bEnd2 || fault.Text(bErr1) != fault.Text(bErr2) {
				t.Errorf("%s, asked again: %v, %d, %v; %q, %d, %v", text, s2, end2, err2, b2, bEnd2, bErr2)
			}
		}
	}
}

func TestLongTexts(t *testing.T) {
	const many = 1 << 20
	for _, c := range []struct {
		text string
		at   int
	}{
		{strings.Repeat("[", many), 1},
		{"[" + strings.Repeat("a", many), many + 1},
		{"[" + strings.Repeat("a", many) + "-", many + 2},
		{"[[:" + strings.Repeat("a", many), 1},
		{"[" + strings.Repeat("[:digit:]", many), 9*many + 1},
		{"[" + strings.Repeat("--[]", many), 4*many + 1},
		{"[" + strings.Repeat("--", many), 3},
	} {
		wantNoSet(t, c.text, 0, api.CodeSyntax, c.at)
	}
	wantNoBytes(t, "\""+strings.Repeat("a", many), 0, many+1)
	s := strings.Repeat("\x00ab\"", many)
	if got, end, err := Unquote(Quote(s), 0); got != s || end != 8*many+2 || err != nil {
		t.Errorf("a long text: %d bytes, %d, %v", len(got), end, err)
	}
}

// TestAllShortTexts: whatever is handed in, the calls end, and answer as the definition below does.
func TestAllShortTexts(t *testing.T) {
	const alphabet = "[]^-&ab\\:n\n"
	texts := []string{"["}
	for longest := 0; longest < 5; longest++ {
		var next []string
		for _, text := range texts {
			compareWithDefinition(t, text)
			for i := range alphabet {
				next = append(next, text+alphabet[i:i+1])
			}
		}
		texts = next
	}
	for _, text := range texts {
		compareWithDefinition(t, text)
	}
}

func TestTextsOfPieces(t *testing.T) {
	pieces := []string{"[", "[", "]", "]", "^", "-", "--[", "&&[", "&", "a", "b-y", "-", "[:digit:]", "[:any:]", "[:foo:]", "[:", `\x41`, `\x4`, `\n`, `\-`, `\q`, "\n", "z", "\xff", "--[]", "&&[^]"}
	x := uint64(7)
	for range 100000 {
		text := "["
		for range x >> 40 % 12 {
			x = x*6364136223846793005 + 1442695040888963407
			text += pieces[x>>33%uint64(len(pieces))]
		}
		x = x*6364136223846793005 + 1442695040888963407
		compareWithDefinition(t, text)
	}
}

func compareWithDefinition(t *testing.T, text string) {
	t.Helper()
	want := define(text)
	s, end, err := Parse(text, 0)
	if f := fault.Tell(err); s != want.set || end != want.end || f.Code != want.code || f.At != want.at {
		t.Fatalf("%q: %v, %d, %v; by definition %v, %d, code %d at %d", text, byteset.List(s), end, err, byteset.List(want.set), want.end, want.code, want.at)
	}
}
