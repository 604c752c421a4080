package witness_test

import (
	"reflect"
	"slices"
	"testing"

	"bolter/api"
	"bolter/match"
	"bolter/minimise"
	"bolter/samples"
	"bolter/witness"
)

// P13.6

// wantShort asks that words are no longer than they may be.
func wantShort(t *testing.T, what any, d api.Dense) {
	t.Helper()
	most := len(d.Next) - 1
	for label, w := range witness.Words(d) {
		if len(w) > most {
			t.Errorf("%s: %d states, but %q is the first word of %d", short(what), most+1, w, label)
		}
	}
	for a := range d.Next {
		if x := apartOf(t, what, d, a, a/2); len(x.word) > most {
			t.Errorf("%s: %d states, but %q tells %d and %d apart", short(what), most+1, x.word, a, a/2)
		}
	}
}

func TestWordsAreShort(t *testing.T) {
	c := chance{12}
	for range 300 {
		d, e := c.dense(10, 2), c.dense(10, 2)
		wantShort(t, shown(d), d)
		if x := differOf(t, shown(d), d, e); len(x.word) > len(d.Next)+len(e.Next)-2 {
			t.Errorf("%s and %s: %q", shown(d), shown(e), x.word)
		}
	}
	wantShort(t, "600 states", samples.States(600))
}

// No bound is greater than need be: chains and rings have words that are as long.
func TestWordsAsLongAsCanBe(t *testing.T) {
	for n := 2; n <= 20; n++ {
		chain := samples.States(n)
		for s := range n {
			chain.Label[s] = onlyAt(n - 1)(s)
		}
		if x := wordOf(t, n, chain, 0); len(x.word) != n-1 {
			t.Errorf("%d states: %q", n, x.word)
		}
		if x := apartOf(t, n, chain, 0, 1); len(x.word) != n-2 {
			t.Errorf("%d states: %q", n, x.word)
		}
		if x := differOf(t, n, chain, byTwo([]int{-1}, [2]int{})); len(x.word) != n+1-2 {
			t.Errorf("%d states and one: %q", n, x.word)
		}
		if x := differOf(t, n, ringOf(n, onlyAt(n-1)), ringOf(n+1, onlyAt(n-1))); len(x.word) != n+n+1-2 {
			t.Errorf("%d states and one more: %q", n, x.word)
		}
	}
}

// Just states of one class are never told apart.
func TestApartAndClasses(t *testing.T) {
	c := chance{13}
	same := 0
	for range 100 {
		d := c.dense(8, 1)
		classes, err := minimise.Classes(d)
		if err != nil {
			t.Fatal(err)
		}
		for a := range d.Next {
			for b := range d.Next {
				if x := apartOf(t, shown(d), d, a, b); x.there == (classes[a] == classes[b]) {
					t.Errorf("%s: %d and %d, of classes %d and %d: %q, %v", shown(d), a, b, classes[a], classes[b], x.word, x.there)
				}
				if a != b && classes[a] == classes[b] {
					same++
				}
			}
		}
	}
	if same < 500 {
		t.Errorf("%d pairs are of one class", same)
	}
}

// Just automata that have one least automaton never differ.
func TestDifferAndLeast(t *testing.T) {
	c := chance{14}
	same := 0
	for range 2000 {
		a, b := c.dense(2, 1), c.dense(3, 1)
		least, err := minimise.Least(a)
		other, fail := minimise.Least(b)
		if err != nil || fail != nil {
			t.Fatal(err, fail)
		}
		alike := reflect.DeepEqual(least, other)
		if x := differOf(t, shown(a), a, b); x.there == alike {
			t.Errorf("%s and %s: %q, %v", shown(a), shown(b), x.word, x.there)
		}
		if alike {
			same++
		}
		wantAnswer(t, shown(a), differOf(t, shown(a), a, least), nothing)
	}
	if min(same, 2000-same) < 200 {
		t.Errorf("%d are alike", same)
	}
}

// A rule of Never never is a token's, each other one is some token's.
func TestNeverAndTokens(t *testing.T) {
	c := chance{15}
	never, tokens := 0, 0
	for range 250 {
		l := c.rules(3)
		active := upTo(0, len(l)-1)
		rules := neverOf(t, l, []api.Dense{denseBy(t, l)}, len(l))
		never += len(rules)
		var seen []int
		for range 20 {
			text := c.Text(6)
			if _, rule, err := match.Longest(l, active, []byte(text)); err != nil || slices.Contains(rules, rule) {
				t.Errorf("%s: rule %d of %v is the token's of %q; %v", short(l), rule, rules, text, err)
			} else {
				seen = append(seen, rule)
			}
		}
		for rule := range l {
			if !slices.Contains(rules, rule) && !slices.Contains(seen, rule) {
				wantToken(t, l, active, rule)
			}
		}
		tokens += len(l) - len(rules)
	}
	if never < 100 || tokens < 100 {
		t.Errorf("%d rules never are, %d are", never, tokens)
	}
}

// wantToken asks that some word's match is that word, by this rule.
func wantToken(t *testing.T, l []api.Core, active []int, rule int) {
	t.Helper()
	d := denseBy(t, l)
	for s, w := range statesFound(d) {
		for b, to := range d.Next[s] {
			if d.Label[to] != rule {
				continue
			}
			text := append([]byte(w), byte(b))
			if n, r, err := match.Longest(l, active, text); n != len(text) || r != rule || err != nil {
				t.Errorf("%s: %q has the match %d, %d, %v; not by rule %d", short(l), text, n, r, err, rule)
			}
			return
		}
	}
	t.Errorf("%s: rule %d is no token's", short(l), rule)
}
