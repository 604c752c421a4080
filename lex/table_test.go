package lex

import (
	"regexp"
	"strconv"

	"bolter/api"
	"bolter/class"
	"bolter/fault"
)

// The rows of the chapter's table, in its order, each at a text's beginning; over bytes: each byte is written as the rune of its number.
var rows = [...]struct {
	form *regexp.Regexp
	kind int
}{
	{regexp.MustCompile(`^[ \t\r]`), api.LexNone},
	{regexp.MustCompile(`^#[^\n]*`), api.LexNone},
	{regexp.MustCompile(`^\n`), api.LexLine},
	{regexp.MustCompile(`^[a-zA-Z_][a-zA-Z0-9_]*`), api.LexName},
	{regexp.MustCompile(`^[0-9]+`), api.LexNumber},
	{regexp.MustCompile(`^"`), api.LexText},
	{regexp.MustCompile(`^[\[.]`), api.LexClass},
	{regexp.MustCompile(`^=>`), api.LexMark},
	{regexp.MustCompile(`^[()|*+?{},/<>=]`), api.LexMark},
}

// byTable is what Lex is to answer of a text that is not too long: lexemes, and the code and the place of its error.
func byTable(text string) (l []api.Lexeme, code, at int) {
	runes := make([]rune, len(text))
	for i := range len(text) {
		runes[i] = rune(text[i])
	}
	for at < len(text) {
		kind, length := row(string(runes[at:]))
		x := api.Lexeme{Kind: kind, At: at, End: at + length}
		var err error
		switch {
		case length == 0:
			return l, api.CodeSyntax, at
		case kind == api.LexName && length > 32:
			return l, api.CodeSyntax, at
		case kind == api.LexName, kind == api.LexMark:
			x.Text = text[at:x.End]
		case kind == api.LexNumber:
			x.N = 1 << 30
			if n, err := strconv.Atoi(text[at:x.End]); err == nil && n < x.N {
				x.N = n
			}
		case kind == api.LexText:
			x.Text, x.End, err = class.Unquote(text, at)
		case text[at] == '.':
			x.Set = allBut('\n')
		case kind == api.LexClass:
			x.Set, x.End, err = class.Parse(text, at)
		}
		if err != nil {
			return l, fault.Tell(err).Code, fault.Tell(err).At
		}
		if kind != api.LexNone {
			l = append(l, x)
		}
		at = x.End
	}
	return l, api.CodeNone, 0
}

// row tells the first row that holds, and how many bytes it takes; 0: none holds.
func row(rest string) (kind, length int) {
	for _, r := range rows {
		if m := r.form.FindString(rest); m != "" {
			return r.kind, len([]rune(m))
		}
	}
	return api.LexNone, 0
}
