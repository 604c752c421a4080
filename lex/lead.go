package lex

import "strings"

// lead is what a lexeme begins with, and each of those that it goes on with.
// Beyond ASCII it is none of the kinds below, whether or not the bytes are a rune's.
type lead rune

func (c lead) isBlank() bool {
	return c == ' ' || c == '\t' || c == '\r'
}

func (c lead) isDigit() bool {
	return '0' <= c && c <= '9'
}

func (c lead) beginsName() bool {
	return 'a' <= c && c <= 'z' || 'A' <= c && c <= 'Z' || c == '_'
}

func (c lead) inName() bool {
	return c.beginsName() || c.isDigit()
}

func (c lead) inRemark() bool {
	return c != '\n'
}

// markLength tells how many bytes the mark has that c begins, with a text behind it; 0: it begins none.
func (c lead) markLength(behind string) int {
	switch c {
	case '=':
		if strings.HasPrefix(behind, ">") {
			return len("=>")
		}
		fallthrough
	case '(', ')', '|', '*', '+', '?', '{', '}', ',', '/', '<', '>':
		return 1
	}
	return 0
}

// run tells how many bytes from a text's beginning on are of a kind.
func run(text string, is func(lead) bool) int {
	for i, r := range text {
		if !is(lead(r)) {
			return i
		}
	}
	return len(text)
}
