package match_test

import (
	"strings"
	"testing"

	"bolter/api"
)

// P9.5

func TestLongestOfRules(t *testing.T) {
	l := coresOf(t, ids)
	for _, c := range []struct {
		text    string
		n, rule int
	}{
		{"iffy.", 4, 1}, {"if", 2, 0}, {"if.", 2, 0}, {"i", 1, 1}, {"if if", 2, 0}, {"", 0, -1}, {".if", 0, -1}, {"f", 1, 1},
	} {
		wantLongest(t, ids, l, []int{0, 1}, c.text, c.n, c.rule)
		wantLongest(t, ids, l, nil, c.text, 0, -1)
	}
	wantLongest(t, ids, l, []int{0}, "iffy.", 2, 0)
	wantLongest(t, ids, l, []int{1}, "if", 2, 1)
	wantLongest(t, ids, l, []int{1, 0, 1}, "if", 2, 0)
	wantLongest(t, "no rules", nil, nil, "a", 0, -1)
}

// The longest match stands ahead of the least rule, and that ahead of the others.
func TestLongestOfManyRules(t *testing.T) {
	l := coresOf(t, "rule \"a\" => p\nrule \"ab\" => q\nrule \"a\" \"b\"? => r\nrule \"abab\"|\"c\" => s\nrule () => t\nrule \"c\"* => u")
	for _, c := range []struct {
		active  []int
		text    string
		n, rule int
	}{
		{upTo(5), "a", 1, 0}, {upTo(5), "ab", 2, 1}, {upTo(5), "aba", 2, 1}, {upTo(5), "abab", 4, 3}, {upTo(5), "ababab", 4, 3}, {upTo(5), "c", 1, 3}, {upTo(5), "cc", 2, 5}, {upTo(5), "d", 0, -1}, {upTo(5), "da", 0, -1},
		{[]int{2, 0}, "ab", 2, 2}, {[]int{2, 0}, "ac", 1, 0}, {[]int{2}, "ac", 1, 2}, {[]int{3, 2, 1}, "abac", 2, 1}, {[]int{5, 3}, "c", 1, 3}, {[]int{5}, "c", 1, 5},
	} {
		wantLongest(t, "six", l, c.active, c.text, c.n, c.rule)
	}
}

// The empty word is no match, and a rule that takes it alone never matches.
func TestLongestOfEmptyWords(t *testing.T) {
	l := coresOf(t, "rule () => p\nrule \"a\"* => q\nrule \"a\"? / \"b\"? => r")
	wantLongest(t, "empty", l, []int{0, 1, 2}, "", 0, -1)
	wantLongest(t, "empty", l, []int{0, 1, 2}, "c", 0, -1)
	wantLongest(t, "empty", l, []int{0}, "a", 0, -1)
	wantLongest(t, "empty", l, []int{0, 1, 2}, "ab", 2, 2)
	wantLongest(t, "empty", l, []int{0, 1, 2}, "ba", 1, 2)
	wantLabel(t, "empty", l, []int{2, 0, 1}, "", 0)
	wantLabel(t, "empty", l, []int{2, 1}, "", 1)
}

func TestLongestOfTrails(t *testing.T) {
	l := coresOf(t, "rule \"a\" / \"b\" => p\nrule \"a\" => q\nrule \"a\"+ / \"c\"* => r")
	for _, c := range []struct {
		active  []int
		text    string
		n, rule int
	}{
		// the document's
		{[]int{0, 1}, "ab", 2, 0}, {[]int{0, 1}, "ac", 1, 1},
		{[]int{0}, "ac", 0, -1}, {[]int{1}, "ab", 1, 1}, {[]int{0, 1, 2}, "accb", 3, 2}, {[]int{0, 1, 2}, "abc", 2, 0}, {[]int{0, 1, 2}, "aab", 2, 2}, {[]int{0, 1, 2}, "a", 1, 1}, {[]int{2}, "aacaa", 3, 2},
	} {
		wantLongest(t, "three", l, c.active, c.text, c.n, c.rule)
	}
}

func TestLongestOfRulesByChance(t *testing.T) {
	c := chance{4}
	for range 30000 {
		l, active := c.rules(3)
		text := c.Text(8)
		n, label := 0, -1
		for i := 1; i <= len(text); i++ {
			if r := labelBy(l, active, text[:i]); r >= 0 {
				n, label = i, r
			}
		}
		wantLongest(t, l, l, active, text, n, label)
	}
}

func TestLongestOfGreatTexts(t *testing.T) {
	as := strings.Repeat("a", api.MaxFile)
	l := []api.Core{rule(cat(row(set("a"), 1<<16-1)...)), rule(plus(cat(set("a"), set("a")))), trailed(plus(set("a")), set("b"))}
	wantLongest(t, "all", l, []int{0, 1, 2}, as, api.MaxFile, 1)
	wantLongest(t, "one less", l, []int{0, 1, 2}, as[1:], api.MaxFile-1, 0)
	wantLongest(t, "one less, not the first", l, []int{1, 2}, as[1:], api.MaxFile-2, 1)
	wantLongest(t, "the trail", l, []int{0, 1, 2}, as[1:]+"b", api.MaxFile, 2)
	wantLongest(t, "none", l, []int{2}, as, 0, -1)
}
