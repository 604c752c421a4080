package minimise_test

import (
	"reflect"
	"slices"
	"testing"

	"bolter/api"
	"bolter/match"
	"bolter/samples"
	"bolter/subset"
)

// P12.3

// alike tells whether two automata have the same labels behind all texts: all pairs of states that texts lead to are gone through.
func alike(a, b api.Dense) bool {
	seen, found := map[[2]int]int{}, [][2]int{{0, 0}}
	for len(found) > 0 {
		now := found[0]
		found = found[1:]
		if a.Label[now[0]] != b.Label[now[1]] {
			return false
		}
		for i, to := range a.Next[now[0]] {
			pair := [2]int{to, b.Next[now[1]][i]}
			if _, ok := seen[pair]; !ok {
				seen[pair] = len(seen)
				found = append(found, pair)
			}
		}
	}
	return true
}

// wantWhatFollows asks for what P12.3 says of one automaton.
func wantWhatFollows(t *testing.T, what any, d api.Dense) api.Dense {
	t.Helper()
	least := leastOf(t, what, d)
	if !alike(d, least) {
		t.Errorf("%s: other labels: %s", short(what), short(shown(least)))
	}
	if !slices.Equal(foundFrom0(least), upTo(0, len(least.Next)-1)) {
		t.Errorf("%s: not as they are found: %s", short(what), short(shown(least)))
	}
	wantLeast(t, what, least, least)
	wantClasses(t, what, least, upTo(0, len(least.Next)-1))
	return least
}

// wantApart asks that any two states are told apart.
func wantApart(t *testing.T, what any, d api.Dense) {
	t.Helper()
	for s, row := range apart(d) {
		for u, told := range row {
			if told != (s != u) {
				t.Errorf("%s: %d and %d are told apart: %v", short(what), s, u, told)
			}
		}
	}
}

func TestWhatFollowsOfRules(t *testing.T) {
	c := chance{6}
	for range 500 {
		l := c.rules(4)
		for _, active := range [][]int{upTo(0, len(l)-1), upTo(1, len(l)-1), nil} {
			least := wantWhatFollows(t, l, denseBy(t, l, active...))
			wantApart(t, l, least)
			for range 10 {
				text := c.Text(7)
				want, err := match.Label(l, active, []byte(text))
				s, bad := subset.Run(least, []byte(text))
				if err != nil || bad != nil || least.Label[s] != want {
					t.Errorf("%s, %v: behind %q comes label %d, want %d; %v, %v", short(l), active, text, least.Label[s], want, err, bad)
				}
			}
		}
	}
}

func TestWhatFollowsByChance(t *testing.T) {
	c := chance{7}
	for range 1000 {
		d := c.dense()
		wantApart(t, shown(d), wantWhatFollows(t, shown(d), d))
	}
}

func TestWhatFollowsOfGreatOnes(t *testing.T) {
	c := chance{8}
	for _, d := range []api.Dense{samples.States(600), ringOf(600, func(s int) int { return s % 7 % 3 }), c.Dense(600, 1), c.Dense(600, 200)} {
		wantWhatFollows(t, "600 states", d)
	}
}

// Automata with the same labels behind all texts have the same least one, others have another.
func TestOneLeast(t *testing.T) {
	c := chance{9}
	for range 500 {
		d := c.Dense(1+c.Of(8), 2)
		least := leastOf(t, shown(d), d)
		for range 3 {
			blown, _ := c.Blown(d, len(d.Next)+c.Of(20))
			wantLeast(t, shown(blown), blown, least)
		}
	}
	same := 0
	for range 3000 {
		a, b := c.Dense(1+c.Of(3), 1), c.Dense(1+c.Of(3), 1)
		want := alike(a, b)
		if got := reflect.DeepEqual(leastOf(t, shown(a), a), leastOf(t, shown(b), b)); got != want {
			t.Errorf("%s and %s have one least: %v", shown(a), shown(b), got)
		}
		if want {
			same++
		}
	}
	if same < 300 {
		t.Errorf("%d are alike", same)
	}
}

func TestOneLeastOfRules(t *testing.T) {
	for _, files := range [][]string{
		{`rule "a"("b"|"c") => t`, `rule "ab"|"ac" => t`, `rule "a"[bc] => t`, `rule ("a"|[])([b]|()"c") => t`},
		{`rule ("a"|"b")* => t`, `rule ("a"*"b"*)* => t`, `rule ("a"*"b")*"a"* => t`, `rule [ab]*"a"?|() => t`},
		{`rule "a"+ => t`, `rule "a""a"* => t`, `rule "a"*"a" => t`, `rule "a"{1,5}"a"* => t`, `rule "a" / "a"* => t`},
		{`rule [] => t`, `rule "a"[] => t`, `rule []+ => t`, `rule [] / "a" => t`},
		{"rule \"a\" => t\nrule [ab] => u", "rule \"a\" => t\nrule \"b\" => u", "rule \"a\" => t\nrule \"a\"|\"b\"|\"a\" => u"},
	} {
		first := denseOf(t, files[0], rulesOf(t, files[0])...)
		for _, text := range files[1:] {
			wantLeast(t, text, denseOf(t, text, rulesOf(t, text)...), leastOf(t, files[0], first))
		}
	}
}

func rulesOf(t *testing.T, text string) []int {
	t.Helper()
	l, err := samples.Cores(text)
	if err != nil {
		t.Fatalf("%q: %v", text, err)
	}
	return upTo(0, len(l)-1)
}

// Expressions that have the same words, by what expressions are.
func TestOneLeastOfExpressions(t *testing.T) {
	c := chance{10}
	for range 150 {
		e, f, g := c.core(2), c.core(2), c.core(2)
		for what, l := range map[string][]api.Expr{
			"alternatives": {alt(e, f), alt(f, e), alt(e, f, e), alt(e, alt(f, set(""))), alt(cat(e, empty()), f)},
			"spread":       {cat(e, alt(f, g)), alt(cat(e, f), cat(e, g)), cat(cat(e, alt(g, f)), maybe(empty()))},
			"counts":       {star(e), maybe(plus(e)), plus(maybe(e)), star(star(e)), alt(empty(), cat(e, star(e))), cat(star(e), star(e)), star(alt(e, empty()))},
			"grouping":     {cat(e, f, g), cat(e, cat(f, g)), cat(cat(e, f), g), alt(cat(e, f, g), set(""))},
			"no words":     {set(""), cat(e, set("")), cat(set(""), f), plus(set(""))},
		} {
			first := leastOf(t, l[0], denseBy(t, []api.Core{rule(l[0])}, 0))
			for _, other := range l[1:] {
				wantLeast(t, what, denseBy(t, []api.Core{rule(other)}, 0), first)
			}
		}
	}
}
