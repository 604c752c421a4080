package follow_test

import (
	"slices"
	"strings"
	"testing"

	"bolter/api"
	"bolter/match"
)

// P10.4

func TestWordsOfRules(t *testing.T) {
	for _, c := range []struct{ rule, takes, not string }{
		{`"a"("b"|"c")*`, "a ab ac abcb", "- b ba aa abca"}, {`"a"?`, "- a", "aa b"}, {`"b" / "c"`, "bc", "b c - bcc"}, {`[]"a"`, "", "- a aa"}, {`()`, "-", "a"},
		{`[] | "a"`, "a", "- aa"}, {`"a" []* "b"`, "ab", "aab a b"}, {`("a" []|"b")+`, "b bb", "- a ab ba"}, {`[a-c]{2,3}`, "ab ccc bab", "a abca ad"}, {`("ab"|"c")* / "a"?`, "- a aba abca caba", "b aab abb"},
		{`"\x00\xff"+`, "\x00\xff \x00\xff\x00\xff", "\x00 \xff\x00 -"}, {`([^a]|"a" "b")*`, "- b ab cab \x00ab\xff", "a aab ca"},
	} {
		f := built(t, c.rule, coresOf(t, "rule "+c.rule+" => t"))
		for _, text := range strings.Fields(c.takes) {
			if !takes(f, 0, strings.Trim(text, "-")) {
				t.Errorf("%s: %q is no word", c.rule, text)
			}
		}
		for _, text := range strings.Fields(c.not) {
			if takes(f, 0, strings.Trim(text, "-")) {
				t.Errorf("%s: %q is a word", c.rule, text)
			}
		}
	}
}

// wantTakes asks of each rule that it takes a text just if the text is one of its words.
func wantTakes(t *testing.T, l []api.Core, f api.Follow, text string) int {
	t.Helper()
	words := 0
	for r, c := range l {
		ends, err := match.Ends(exprOf(c), []byte(text))
		if err != nil {
			t.Fatalf("%s: %v", short(l), err)
		}
		is := slices.Contains(ends, len(text))
		if takes(f, r, text) != is {
			t.Errorf("%s: rule %d takes %q: %v, want %v", short(l), r, text, !is, is)
		}
		if is && len(text) > 1 {
			words++
		}
	}
	return words
}

func TestWordsOfSmallCores(t *testing.T) {
	for _, e := range small() {
		l := []api.Core{rule(e)}
		f := built(t, e, l)
		for _, text := range []string{"", "a", "b", "aa", "ab", "ba", "bb", "aaa", "aba", "abb", "bab", "aaaa", "abab"} {
			wantTakes(t, l, f, text)
		}
	}
}

func TestWordsOfRulesByChance(t *testing.T) {
	c := chance{3}
	words := 0
	for range 3000 {
		l := c.rules(4)
		f := built(t, l, l)
		for range 20 {
			words += wantTakes(t, l, f, c.Text(8))
		}
	}
	if words < 2000 {
		t.Errorf("%d words", words)
	}
}

// What a text leads to has the least of its ends as the text's label.
func TestLabelsByPlaces(t *testing.T) {
	c := chance{4}
	for range 3000 {
		l, text := c.rules(3), c.Text(6)
		f := built(t, l, l)
		least := slices.IndexFunc(upTo(0, len(l)-1), func(r int) bool { return takes(f, r, text) })
		if label, err := match.Label(l, upTo(0, len(l)-1), []byte(text)); label != least || err != nil {
			t.Errorf("%s: %q has the label %d, by places %d", short(l), text, label, least)
		}
	}
}
