package match_test

import (
	"strings"
	"testing"

	"bolter/api"
	"bolter/byteset"
)

// P9.2

func TestEndsOfExpressions(t *testing.T) {
	for _, c := range []struct {
		e, text string
		want    []int
	}{
		// the document's
		{`"a"|"ab"*`, "abbc", []int{0, 1, 2}}, {`()`, "", []int{0}},
		// the empty word, sets, texts
		{`()`, "a", []int{0}}, {`"a"`, "", nil}, {`"a"`, "a", []int{1}}, {`"a"`, "aa", []int{1}}, {`"a"`, "ba", nil}, {`[]`, "", nil}, {`[]`, "a", nil},
		{`[a-z]`, "m", []int{1}}, {`[^]`, "\x00", []int{1}}, {`[^]`, "\xff", []int{1}}, {`[^a]`, "a", nil}, {`"\x00\xff"`, "\x00\xff\x00", []int{2}}, {`"abc"`, "abcabc", []int{3}}, {`"abc"`, "ab", nil}, {`"abc"`, "abd", nil},
		// cats
		{`"a"? "ab"`, "aab", []int{3}}, {`"a"? "ab"`, "ab", []int{2}}, {`"a"? "b"?`, "ab", []int{0, 1, 2}}, {`"a"? "b"?`, "ba", []int{0, 1}}, {`"a"* "ab"`, "aaab", []int{4}}, {`"a"* "a"`, "aaa", []int{1, 2, 3}}, {`"a" [] "b"`, "ab", nil}, {`"a" []`, "a", nil}, {`"a" []?`, "aa", []int{1}}, {`("a"|"ab") ("c"|"bcd")`, "abcd", []int{3, 4}},
		// alts
		{`"a"|"b"`, "b", []int{1}}, {`"a"|"abc"|"ab"`, "abcd", []int{1, 2, 3}}, {`()|"ab"`, "ab", []int{0, 2}}, {`"ab"|()`, "b", []int{0}}, {`[]|"a"`, "a", []int{1}}, {`"a" []|"b"`, "b", []int{1}}, {`[]|[]`, "", nil},
		// counts
		{`"a"*`, "aab", []int{0, 1, 2}}, {`"a"+`, "aab", []int{1, 2}}, {`"a"?`, "aab", []int{0, 1}}, {`"a"*`, "", []int{0}}, {`"a"+`, "", nil}, {`"a"?`, "", []int{0}}, {`("a"|"bb")*`, "abbba", []int{0, 1, 3}}, {`("ab")+`, "ababa", []int{2, 4}}, {`("a" "b"*)+`, "abbab", []int{1, 2, 3, 4, 5}}, {`("a"?)+`, "aa", []int{0, 1, 2}}, {`(("a"|"b")* "a")+`, "bab", []int{2}},
		{`[]*`, "a", []int{0}}, {`[]+`, "a", nil}, {`[]?`, "a", []int{0}}, {`([] "a"|"b")+`, "bab", []int{1}},
		{`"a"{3}`, "aaaa", []int{3}}, {`"a"{2,3}`, "aaaa", []int{2, 3}}, {`"a"{2,}`, "aaaa", []int{2, 3, 4}}, {`"ab"{0,2}`, "ababab", []int{0, 2, 4}}, {`"a"{0}`, "a", []int{0}}, {`("a"|"ab"){2} "b"`, "abab", []int{4}}, {`("a"|"ab"){2} "b"`, "aba", nil}, {`("a"|"ab"){2} "b"`, "aabb", []int{3, 4}},
		// words that overlap
		{`("a"|"b")* "abb"`, "ababbabb", []int{5, 8}}, {`("ab"|"aba"|"b")*`, "abab", []int{0, 2, 3, 4}}, {`("a"* "b"*)*`, "abba", []int{0, 1, 2, 3, 4}}, {`("a"|"b")* "a" ("a"|"b"){2}`, "abaab", []int{3, 5}},
	} {
		wantEnds(t, c.e, coreOf(t, c.e), c.text, c.want...)
	}
}

// Cores that expand makes none of.
func TestEndsOfOtherCores(t *testing.T) {
	a, b := set("a"), set("b")
	for _, c := range []struct {
		e    api.Expr
		text string
		want []int
	}{
		{star(empty()), "a", []int{0}}, {plus(empty()), "", []int{0}}, {cat(empty(), empty()), "a", []int{0}}, {alt(empty(), empty()), "a", []int{0}}, {cat(empty(), a, empty()), "ab", []int{1}},
		{plus(plus(a)), "aab", []int{1, 2}}, {plus(maybe(a)), "aab", []int{0, 1, 2}}, {maybe(plus(a)), "aab", []int{0, 1, 2}}, {maybe(maybe(a)), "aab", []int{0, 1}}, {plus(star(a)), "aab", []int{0, 1, 2}}, {star(maybe(cat(a, b))), "abab", []int{0, 2, 4}}, {maybe(maybe(cat(a, b))), "abab", []int{0, 2}},
		{plus(cat(star(a), star(b))), "abab", []int{0, 1, 2, 3, 4}}, {plus(cat(plus(a), plus(b))), "abaab", []int{2, 5}}, {plus(alt(empty(), cat(a, b))), "abab", []int{0, 2, 4}}, {star(set("")), "a", []int{0}}, {plus(maybe(set(""))), "a", []int{0}}, {plus(star(set(""))), "", []int{0}}, {cat(a, plus(set(""))), "a", nil}, {alt(set(""), cat(set(""), a)), "a", nil},
		{api.Expr{Op: api.OpSet, Set: api.Set{0, 0, 0, 1 << 63}}, "\xff\xff", []int{1}}, {star(api.Expr{Op: api.OpSet, Set: byteset.All()}), "\x00@\x80\xc0", []int{0, 1, 2, 3, 4}},
	} {
		wantEnds(t, c.e, c.e, c.text, c.want...)
	}
}

// Against the words by their definition.
func TestEndsOfSmallCores(t *testing.T) {
	for _, e := range small() {
		words := langOf(e)
		for _, text := range texts(4) {
			var want []int
			for n := range len(text) + 1 {
				if words[number(text[:n])] {
					want = append(want, n)
				}
			}
			wantEnds(t, e, e, text, want...)
		}
	}
}

func TestEndsOfCoresByChance(t *testing.T) {
	c := chance{1}
	for range 40000 {
		e, text := c.core(4), c.Text(20)
		wantEnds(t, e, e, text, listOf(endsBy(e, text, 1))...)
	}
}

// The greatest cores and texts that there are.
func TestEndsOfGreatCores(t *testing.T) {
	a, b := set("a"), set("b")
	as := strings.Repeat("a", api.MaxFile)
	all := upTo(api.MaxFile)
	wantEnds(t, "a star", star(a), as, all...)
	wantEnds(t, "deep stars", nested(a, 1<<12-1, 0, -1), as, all...)
	wantEnds(t, "deep pluses", nested(a, 1<<12-1, 1, -1), as, all[1:]...)
	wantEnds(t, "deep maybes", nested(a, 1<<12-1, 0, 1), as, 0, 1)
	wantEnds(t, "deep, of two", nested(cat(a, b), 1<<12-2, 1, -1), "abab"+as[4:], 2, 4)
	wantEnds(t, "deep, empty", nested(empty(), 1<<12-1, 1, -1), as, 0)
	wantEnds(t, "deep, none", nested(set(""), 1<<12-1, 1, -1), as)
	wantEnds(t, "long", cat(row(a, 1<<16-1)...), as, 1<<16-1)
	wantEnds(t, "long, and none", cat(append(row(a, 1<<16-2), set(""))...), as)
	wantEnds(t, "long, again", star(cat(row(a, 1<<15)...)), as, 0, 1<<15, 1<<16)
	wantEnds(t, "wide", alt(row(a, 1<<16-1)...), as, 1)
	wantEnds(t, "wide, again", star(alt(row(a, 1<<16-2)...)), as[:500], all[:501]...)
	wantEnds(t, "many ways", cat(append(row(maybe(a), 500), row(a, 500)...)...), as, all[500:1001]...)
}

// Cores of which each byte leaves many ways open.
func TestEndsOfManyWays(t *testing.T) {
	a, ab := set("a"), set("ab")
	var odd []int
	for n := 201; n <= 600; n += 2 {
		odd = append(odd, n)
	}
	wantEnds(t, "the 200th from the end", cat(append([]api.Expr{star(ab), a}, row(ab, 199)...)...), strings.Repeat("ba", 250)+strings.Repeat("b", 100), odd...)
	deep := a
	for range 1000 {
		deep = star(cat(deep, maybe(set("b"))))
	}
	wantEnds(t, "stars of cats", deep, strings.Repeat("ab", 100)+"c", upTo(200)...)
}

func upTo(n int) []int {
	l := make([]int, n+1)
	for i := range l {
		l[i] = i
	}
	return l
}
