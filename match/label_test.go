package match_test

import (
	"slices"
	"strings"
	"testing"

	"bolter/api"
)

// P9.4

// ids are the document's rules.
const ids = "rule \"if\" => i\nrule [a-z]+ => n"

func TestLabelsOfRules(t *testing.T) {
	l := coresOf(t, ids)
	for text, want := range map[string]int{"if": 0, "iff": 1, "": -1, "i": 1, "f": 1, "if.": -1, "I": -1, ".": -1, "iif": 1} {
		wantLabel(t, ids, l, []int{0, 1}, text, want)
		wantLabel(t, ids, l, nil, text, -1)
		wantLabel(t, ids, l, []int{}, text, -1)
	}
	wantLabel(t, ids, l, []int{1}, "if", 1)
	wantLabel(t, ids, l, []int{0}, "iff", -1)
	wantLabel(t, "no rules", nil, nil, "", -1)
	wantLabel(t, "no rules", []api.Core{}, nil, "a", -1)
}

// The least rule is told, however the active ones stand.
func TestLabelsOfActiveRules(t *testing.T) {
	l := coresOf(t, "rule \"a\" => p\nrule \"a\"|\"b\" => q\nrule [a-c] => r\nrule [a-d] => s\nrule \"a\" => t")
	for _, c := range []struct {
		active []int
		want   string // of a, b, c, d, e
	}{
		{[]int{0, 1, 2, 3, 4}, "0123-"}, {[]int{4, 3, 2, 1, 0}, "0123-"}, {[]int{3, 1, 3, 1}, "1133-"}, {[]int{4, 2}, "222--"}, {[]int{4}, "4----"}, {[]int{0, 0}, "0----"}, {[]int{2, 3, 0}, "0223-"}, {nil, "-----"},
	} {
		for i, want := range c.want {
			label := -1
			if want != '-' {
				label = int(want - '0')
			}
			wantLabel(t, "five", l, c.active, "abcde"[i:i+1], label)
		}
	}
	last := append(slices.Repeat([]api.Core{rule(set("b"))}, api.MaxRules-1), rule(set("a")))
	wantLabel(t, "the last", last, upTo(api.MaxRules-1), "a", api.MaxRules-1)
	wantLabel(t, "many times", last, slices.Repeat(upTo(api.MaxRules-1), 1000), "b", 0)
}

// A rule's words are those of its head with those of its trail behind them.
func TestLabelsOfTrails(t *testing.T) {
	for _, c := range []struct{ rule, takes, not string }{
		{`"a" / "b"`, "ab", "a b aab abb"}, {`"a" / ()`, "a", "aa"}, {`"a"* / "b"*`, "- a b ab aabb", "ba aba"}, {`"a"+ / "ab"`, "aab aaab", "ab a"}, {`"a"? / "a"?`, "- a aa", "aaa"}, {`"a" / []`, "", "- a"}, {`[] / "a"`, "", "- a"}, {`() / "a"`, "a", "- aa"}, {`"a" "b" / "c"|"d"+`, "abc abd abdd", "ab c abcd"},
	} {
		l := coresOf(t, "rule "+c.rule+" => t")
		for _, text := range strings.Fields(c.takes) {
			wantLabel(t, c.rule, l, []int{0}, strings.Trim(text, "-"), 0)
		}
		for _, text := range strings.Fields(c.not) {
			wantLabel(t, c.rule, l, []int{0}, strings.Trim(text, "-"), -1)
		}
	}
}

// labelBy reads the document's words on labels once more.
func labelBy(l []api.Core, active []int, text string) int {
	for r, c := range l {
		if slices.Contains(active, r) && endsBy(wordsOf(c), text, 1)>>len(text)&1 == 1 {
			return r
		}
	}
	return -1
}

func TestLabelsOfRulesByChance(t *testing.T) {
	c := chance{3}
	for range 30000 {
		l, active := c.rules(3)
		text := c.Text(6)
		wantLabel(t, l, l, active, text, labelBy(l, active, text))
	}
}

func TestLabelsOfGreatTexts(t *testing.T) {
	as := strings.Repeat("a", api.MaxFile)
	l := []api.Core{rule(cat(row(set("a"), 1<<16-1)...)), rule(plus(cat(set("a"), set("a")))), trailed(plus(set("a")), set("b"))}
	wantLabel(t, "all", l, []int{0, 1, 2}, as, 1)
	wantLabel(t, "one less", l, []int{0, 1, 2}, as[1:], 0)
	wantLabel(t, "one less, not the first", l, []int{1, 2}, as[1:], -1)
	wantLabel(t, "the trail", l, []int{0, 1, 2}, as[1:]+"b", 2)
}
