package match_test

import (
	"strings"
	"testing"

	"bolter/api"
	"bolter/byteset"
)

// P9.3

func TestNextOfExpressions(t *testing.T) {
	for _, c := range []struct{ e, text, want string }{
		// the document's
		{`"ab"|"ac"`, "a", "bc"}, {`"ab"|"ac"`, "b", ""}, {`[] "a"`, "", ""},
		// the empty word, sets, texts
		{`()`, "", ""}, {`()`, "a", ""}, {`"a"`, "", "a"}, {`"a"`, "a", ""}, {`"a"`, "b", ""}, {`[]`, "", ""}, {`[x-z]`, "", "xyz"}, {`"\x00\xff"`, "", "\x00"}, {`"\x00\xff"`, "\x00", "\xff"}, {`"abc"`, "ab", "c"}, {`"abc"`, "abc", ""}, {`"abc"`, "ac", ""}, {`"abc"`, "abcc", ""},
		// cats
		{`"a"? "bc"`, "", "ab"}, {`"a"? "b"? "c"`, "", "abc"}, {`"a"? "b"? "c"`, "a", "bc"}, {`"a"* "b"`, "aa", "ab"}, {`"a"* "a"`, "a", "a"}, {`"a" []`, "", ""}, {`"a" "b" []`, "a", ""}, {`"a" []? "b"`, "a", "b"}, {`"a" ("b" []|"c")`, "a", "c"}, {`"a"* []`, "a", ""}, {`"a"* ("b"* []|"c")`, "a", "ac"},
		// alts
		{`"a"|"b"`, "", "ab"}, {`"a"|"b"`, "a", ""}, {`"ab"|"acd"|"bd"`, "a", "bc"}, {`"ab"|"acd"|"bd"`, "ac", "d"}, {`"ab"|()`, "", "a"}, {`[] "b"|"a"`, "", "a"}, {`"a" []|"ab"`, "a", "b"}, {`"ab" []|"a"`, "a", ""},
		// counts
		{`"a"*`, "", "a"}, {`"a"*`, "aa", "a"}, {`"a"+`, "a", "a"}, {`"a"?`, "", "a"}, {`"a"?`, "a", ""}, {`("ab")*`, "a", "b"}, {`("ab")*`, "ab", "a"}, {`("ab"|"c")+ "d"?`, "ab", "acd"}, {`("ab"|"c")+ "d"?`, "cd", ""}, {`("a"?"b"?)+"c"`, "ba", "abc"}, {`[]*`, "", ""}, {`[]* "a"`, "", "a"}, {`([] "a")* "b"`, "", "b"}, {`("a" [])* "b"`, "", "b"}, {`("a" []|"b")+ "c"?`, "b", "bc"}, {`"a"{2}`, "a", "a"}, {`"a"{2}`, "aa", ""}, {`"a"{2,3} "b"`, "aa", "ab"}, {`"a"{2,3} "b"`, "aaa", "b"},
	} {
		wantNext(t, c.e, coreOf(t, c.e), c.text, c.want)
	}
	all := string(byteset.List(byteset.All()))
	wantNext(t, "all", coreOf(t, `[^]`), "", all)
	wantNext(t, "all, behind one", coreOf(t, `[^]+`), "\x80", all)
	wantNext(t, "all but one", coreOf(t, `"a" [^a]`), "a", strings.Replace(all, "a", "", 1))
}

// Against the words by their definition: the words' shortest ends are no longer than the four positions that are left.
func TestNextOfSmallCores(t *testing.T) {
	for _, e := range small() {
		words := langOf(e)
		for _, text := range []string{"", "a", "b", "ab", "ba", "aab"} {
			want := ""
			for _, b := range []string{"a", "b"} {
				if beginsAny(words, text+b) {
					want += b
				}
			}
			wantNext(t, e, e, text, want)
		}
	}
}

func beginsAny(words lang, begin string) bool {
	for n := range 5 {
		for _, end := range texts(n) {
			if words[number(begin+end)] {
				return true
			}
		}
	}
	return false
}

func TestNextOfCoresByChance(t *testing.T) {
	c := chance{2}
	for range 10000 {
		e, text := c.core(4), c.Text(12)
		wantNext(t, e, e, text, nextBy(e, text))
	}
}

// The greatest cores and texts that there are.
func TestNextOfGreatCores(t *testing.T) {
	a, b := set("a"), set("b")
	as := strings.Repeat("a", api.MaxFile)
	wantNext(t, "a star", star(a), as, "a")
	wantNext(t, "a star, left", star(a), as[1:]+"b", "")
	wantNext(t, "deep", nested(a, 1<<12-1, 1, -1), as, "a")
	wantNext(t, "deep, of two", nested(cat(a, b), 1<<12-2, 0, -1), "aba", "b")
	wantNext(t, "deep, none", cat(a, nested(set(""), 1<<12-2, 1, -1)), "", "")
	wantNext(t, "long", cat(row(a, 1<<16-1)...), as[2:], "a")
	wantNext(t, "long, done", cat(row(a, 1<<16-1)...), as[1:], "")
	wantNext(t, "long, and none", cat(append(row(a, 1<<16-2), set(""))...), "a", "")
	wantNext(t, "wide", alt(append(row(a, 1<<16-2), b)...), "", "ab")
	wantNext(t, "many ways", cat(append(row(maybe(a), 500), row(b, 500)...)...), as[:300], "ab")
}
