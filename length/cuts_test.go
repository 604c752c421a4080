package length_test

import (
	"slices"
	"testing"

	"bolter/api"
	"bolter/length"
	"bolter/samples"
)

// P8.2

func TestCutsOfRules(t *testing.T) {
	for text, want := range map[string]api.Cut{
		// the document's
		`"a"+ / "bc"`: cutTrail(2), `"ab" / "c"*`: cutHead(2), `"a" / ()`: cutTrail(0), `"a"+ / []`: cutTrail(0), `[] / "b"+`: cutHead(1),
		// no trail: whatever the head is
		`"a"`: {}, `"a"*`: {}, `()`: {}, `[]`: {}, `"a"+|"b"?`: {},
		// the trail's words are alike, whatever the head is
		`"a"+ / "b"`: cutTrail(1), `"ab" / "c"`: cutTrail(1), `"a"+ / ()`: cutTrail(0), `"a"+ / "bc"|"de"`: cutTrail(2), `"a"|"bc" / "d"{7}`: cutTrail(7), `"a"+ / []*`: cutTrail(0), `"a"+ / [] "b" | "cd"`: cutTrail(2), `"a" / []`: cutTrail(0), `"a"+ / [] "b"*`: cutTrail(0), `"a" / "b"{100}`: cutTrail(100),
		// the head's words are alike
		`"a" / "b"+`: cutHead(1), `"a" / "b"?`: cutHead(1), `"ab"|"cd" / "e"|"fg"`: cutHead(2), `"a"{100} / "b"{0,2}`: cutHead(100), `[] "a" | "bcd" / "e"*`: cutHead(3), `[]* "a" / "b"*`: cutHead(1), `"abc" / ()|"d"`: cutHead(3),
		// the head has no words
		`[] / "b"`: cutTrail(1), `[] / []`: cutTrail(0), `[] / ()`: cutTrail(0), `[] / "bc"`: cutTrail(2), `[] / "b"*`: cutHead(1), `[] / "b"?`: cutHead(1), `"a"+ [] / "b"+`: cutHead(1), `[]+ / "b"|"cd"`: cutHead(1),
	} {
		wantCuts(t, text, coresOf(t, "rule "+text+" => t"), want)
	}
}

func TestRulesWithoutAFixedCut(t *testing.T) {
	for _, text := range []string{
		// the document's
		`"a"+ / "b"+`, `"a"* / "b"`,
		// the head has the empty word
		`() / "b"`, `() / ()`, `() / []`, `() / "b"+`, `"a"? / "b"`, `"a"|() / "b"`, `"a"? "b"* / "c"`, `"a"{0} / "b"`, `"a"{0,3} / ()`, `[]* / "b"`, `[]? / []`, `([]|())+ / "b"*`, `"a"* / "b"*`,
		// both are of unlike lengths
		`"a"+ / "b"?`, `"a"|"bc" / "d"|"ef"`, `"a"|"bc" / "d"*`, `"a"+ / "b"|"cd"`, `"a"+ / ()|"d"`, `"a" "b"? / "c" "d"?`, `"a"{2,3} / "b"{2,3}`, `"a"{1,} / []|"b"+`,
	} {
		wantNoCuts(t, text, coresOf(t, "rule "+text+" => t"), trailFault(1))
	}
}

// Each rule has its cut, in their order.
func TestCutsOfManyRules(t *testing.T) {
	wantCuts(t, "four", coresOf(t, "rule \"a\"* => t\nrule \"a\"+ / \"bcd\" => u\nrule () => v\nrule \"ab\" / \"c\"? => w"), api.Cut{}, cutTrail(3), api.Cut{}, cutHead(2))
	wantCuts(t, "none", nil)
	wantCuts(t, "none", []api.Core{})
	many := slices.Repeat([]api.Core{trailed(plus(set("a")), set("b"))}, api.MaxRules)
	wantCuts(t, "as many as may be", many, slices.Repeat([]api.Cut{cutTrail(1)}, api.MaxRules)...)
}

// The first rule that has no fixed cut is told, from 1 on, and no cut beside it.
func TestTheFirstRuleWithoutACut(t *testing.T) {
	good, bad, worse := trailed(plus(set("a")), set("b")), trailed(plus(set("a")), plus(set("b"))), trailed(empty(), set("b"))
	wantNoCuts(t, "the second", []api.Core{good, bad, worse}, trailFault(2))
	wantNoCuts(t, "the second", []api.Core{good, worse, bad}, trailFault(2))
	wantNoCuts(t, "the second, without a trail ahead", []api.Core{rule(star(set("a"))), worse, good}, trailFault(2))
	wantNoCuts(t, "the last", append(slices.Repeat([]api.Core{good}, api.MaxRules-1), bad), trailFault(api.MaxRules))
}

func TestCutsOfNoCores(t *testing.T) {
	good, bad := trailed(set("a"), set("b")), trailed(empty(), set("b"))
	for what, e := range samples.NotCores() {
		for _, c := range []api.Core{rule(e), trailed(e, set("b")), trailed(set("a"), e), trailed(plus(set("a")), e), trailed(empty(), e)} {
			wantNoCuts(t, what, []api.Core{c}, argFault())
			wantNoCuts(t, what+", last", []api.Core{good, c}, argFault())
			// CodeArg stands ahead of CodeTrail, wherever it applies.
			wantNoCuts(t, what+", behind a fault", []api.Core{bad, good, c}, argFault())
		}
	}
}

func TestTooManyRules(t *testing.T) {
	many := slices.Repeat([]api.Core{rule(set("a"))}, api.MaxRules+1)
	wantNoCuts(t, "too many", many, argFault())
	wantNoCuts(t, "a great many", slices.Repeat(many, 1000), argFault())
	many[0] = trailed(empty(), empty())
	wantNoCuts(t, "too many, and a fault", many, argFault())
	wantCuts(t, "one less", many[1:], make([]api.Cut, api.MaxRules)...)
}

// A Trail of a rule that has none is the zero Expr.
func TestTrailsThatAreNone(t *testing.T) {
	for _, trail := range samples.NotNone() {
		c := api.Core{Head: set("a"), Trail: trail}
		wantNoCuts(t, c, []api.Core{c}, argFault())
	}
	wantCuts(t, "an empty list", []api.Core{{Head: set("a"), Trail: api.Expr{Args: []api.Expr{}}}}, api.Cut{})
}

// cutBy reads P8.2 once more, by the lengths of words; false, if it is refused.
func cutBy(c api.Core) (api.Cut, bool) {
	head, trail := lensOf(c.Head), lensOf(c.Trail)
	switch {
	case head&1 == 1 || len(lengthsIn(head)) > 1 && len(lengthsIn(trail)) > 1:
		return api.Cut{}, false
	case len(lengthsIn(trail)) == 0:
		return cutTrail(0), true
	case len(lengthsIn(trail)) == 1:
		return cutTrail(lengthsIn(trail)[0]), true
	case len(lengthsIn(head)) == 0:
		return cutHead(1), true
	}
	return cutHead(lengthsIn(head)[0]), true
}

func lengthsIn(l lens) []int {
	var out []int
	for n := range longest + 1 {
		if l>>n&1 == 1 {
			out = append(out, n)
		}
	}
	return out
}

func TestCutsOfSmallRules(t *testing.T) {
	some := slices.Concat([]api.Expr{empty(), set(""), set("a")}, samples.Counted([]api.Expr{empty(), set(""), set("a")}), samples.Pairs([]api.Expr{empty(), set(""), set("a"), star(set("a"))}, []api.Expr{empty(), set(""), set("a"), plus(set("a"))}))
	for _, head := range some {
		wantCuts(t, head, []api.Core{rule(head)}, api.Cut{})
		for _, trail := range some {
			wantCutBy(t, trailed(head, trail))
		}
	}
}

func wantCutBy(t *testing.T, c api.Core) {
	t.Helper()
	if want, ok := cutBy(c); ok {
		wantCuts(t, c, []api.Core{c}, want)
	} else {
		wantNoCuts(t, c, []api.Core{c}, trailFault(1))
	}
}

func TestCutsOfRulesByChance(t *testing.T) {
	c := chance{5}
	for range 20000 {
		r := c.rule(2)
		if !r.HasTrail {
			wantCuts(t, r, []api.Core{r}, api.Cut{})
			continue
		}
		wantCutBy(t, r)
	}
}

// P8.3: of each match the token is one byte or more, and it ends where a word of the head does that has a word of the trail behind it.
func TestTokensAreNotEmpty(t *testing.T) {
	c := chance{6}
	matches := 0
	for range 20000 {
		r := trailed(c.core(2), c.core(2))
		cuts, err := length.Cuts([]api.Core{r})
		if err != nil {
			continue
		}
		head, trail := lensOf(r.Head), lensOf(r.Trail)
		for _, n := range lengthsIn(head.then(trail)) {
			matches++
			token := cuts[0].N
			if cuts[0].Kind == api.CutTrail {
				token = n - cuts[0].N
			}
			if token < 1 || head>>token&1 == 0 || trail>>(n-token)&1 == 0 {
				t.Fatalf("%+v: %+v: of a match of %d bytes the token is %d", r, cuts[0], n, token)
			}
		}
		wantBothCutsOne(t, r, cuts[0])
	}
	if matches < 1000 {
		t.Errorf("%d matches", matches)
	}
}

// wantBothCutsOne asks that, where head and trail have words of one length, a match is as long as both, so that either cut is the other.
func wantBothCutsOne(t *testing.T, r api.Core, cut api.Cut) {
	t.Helper()
	head, trail := lengthsIn(lensOf(r.Head)), lengthsIn(lensOf(r.Trail))
	if len(head) == 1 && len(trail) == 1 && (cut != cutTrail(trail[0]) || lensOf(r.Head).then(lensOf(r.Trail)) != 1<<(head[0]+cut.N)) {
		t.Errorf("%+v: %+v, %d and %d bytes", r, cut, head[0], trail[0])
	}
}
