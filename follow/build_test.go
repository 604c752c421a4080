package follow_test

import (
	"slices"
	"testing"

	"bolter/api"
	"bolter/samples"
)

// P10.1

func TestRowsOfRules(t *testing.T) {
	for text, want := range map[string]string{
		// the document's
		`rule "a"("b"|"c")* => t`:                   "[0 0 0] [[0]] [[1 2 3] [1 2 3] [1 2 3]]",
		"rule \"a\"? => t\nrule \"b\" / \"c\" => u": "[0 1 1] [[0 3] [1]] [[3] [2] [4]]",
		`rule []"a" => t`:                           "[0 0] [[0]] [[1] [2]]",
		`rule () => t`:                              "[] [[0]] []",
		// no rules; sets; texts
		``:                       "[] [] []",
		`rule [a-z] => t`:        "[0] [[0]] [[1]]",
		`rule [] => t`:           "[0] [[0]] [[1]]",
		`rule "abc" => t`:        "[0 0 0] [[0]] [[1] [2] [3]]",
		`rule "a" [] "b" => t`:   "[0 0 0] [[0]] [[1] [2] [3]]",
		`rule "a" []? "b" => t`:  "[0 0 0] [[0]] [[1 2] [2] [3]]",
		`rule ([]|"a") "b" => t`: "[0 0 0] [[0 1]] [[2] [2] [3]]",
		`rule []* => t`:          "[0] [[0 1]] [[0 1]]",
		// cats
		`rule "a"? "b" => t`:        "[0 0] [[0 1]] [[1] [2]]",
		`rule "a" "b"? => t`:        "[0 0] [[0]] [[1 2] [2]]",
		`rule "a" "b"? "c" => t`:    "[0 0 0] [[0]] [[1 2] [2] [3]]",
		`rule "a"? "b"? "c"? => t`:  "[0 0 0] [[0 1 2 3]] [[1 2 3] [2 3] [3]]",
		`rule "a" ("b" "c")? => t`:  "[0 0 0] [[0]] [[1 3] [2] [3]]",
		`rule ("a" "b"?) "c" => t`:  "[0 0 0] [[0]] [[1 2] [2] [3]]",
		`rule "a" "b"* "c"* => t`:   "[0 0 0] [[0]] [[1 2 3] [1 2 3] [2 3]]",
		`rule "a"+ "b"+ => t`:       "[0 0] [[0]] [[0 1] [1 2]]",
		`rule "a" ("b"?|"c") => t`:  "[0 0 0] [[0]] [[1 2 3] [3] [3]]",
		`rule "ab"? "cd"? "e" => t`: "[0 0 0 0 0] [[0 2 4]] [[1] [2 4] [3] [4] [5]]",
		// alts
		`rule "a"|"b" => t`:              "[0 0] [[0 1]] [[2] [2]]",
		`rule "ab"|"cd" => t`:            "[0 0 0 0] [[0 2]] [[1] [4] [3] [4]]",
		`rule "ab"|() => t`:              "[0 0] [[0 2]] [[1] [2]]",
		`rule "a"*|"b"+ => t`:            "[0 0] [[0 1 2]] [[0 2] [1 2]]",
		`rule ("a"|"b") ("c"|"d") => t`:  "[0 0 0 0] [[0 1]] [[2 3] [2 3] [4] [4]]",
		`rule "a" ("b"|()) ("c"|()) =>t`: "[0 0 0] [[0]] [[1 2 3] [2 3] [3]]",
		// counts
		`rule "a"* => t`:              "[0] [[0 1]] [[0 1]]",
		`rule "a"+ => t`:              "[0] [[0]] [[0 1]]",
		`rule "a"? => t`:              "[0] [[0 1]] [[1]]",
		`rule "ab"+ => t`:             "[0 0] [[0]] [[1] [0 2]]",
		`rule "ab"? => t`:             "[0 0] [[0 2]] [[1] [2]]",
		`rule ("a"?"b"?)+"c"? => t`:   "[0 0 0] [[0 1 2 3]] [[0 1 2 3] [0 1 2 3] [3]]",
		`rule ("a" "b"*)+ "c" => t`:   "[0 0 0] [[0]] [[0 1 2] [0 1 2] [3]]",
		`rule "a"{3} => t`:            "[0 0 0] [[0]] [[1] [2] [3]]",
		`rule "a"{1,3} => t`:          "[0 0 0] [[0]] [[1 3] [2 3] [3]]",
		`rule "a"{2,} => t`:           "[0 0] [[0]] [[1] [1 2]]",
		`rule "a"{0} => t`:            "[] [[0]] []",
		`rule (("a"|"b"+) "c")* => t`: "[0 0 0] [[0 1 3]] [[2] [1 2] [0 1 3]]",
		// trails
		`rule "a" / () => t`:              "[0] [[0]] [[1]]",
		`rule () / "a" => t`:              "[0] [[0]] [[1]]",
		`rule () / () => t`:               "[] [[0]] []",
		`rule "a"? / "b"? => t`:           "[0 0] [[0 1 2]] [[1 2] [2]]",
		`rule "a"+ / "bc" => t`:           "[0 0 0] [[0]] [[0 1] [2] [3]]",
		`rule ("a"|"b") / ("c"|"d")* =>t`: "[0 0 0 0] [[0 1]] [[2 3 4] [2 3 4] [2 3 4] [2 3 4]]",
		// several rules
		"rule () => t\nrule \"a\" => u\nrule () => v\nrule \"b\"* => w":           "[1 3] [[2] [0] [4] [1 5]] [[3] [1 5]]",
		"rule \"a\"+ / \"b\"? => t\nrule \"cd\" => u\nrule \"e\"* / \"f\"* => v":  "[0 0 1 1 2 2] [[0] [2] [4 5 8]] [[0 1 6] [6] [3] [7] [4 5 8] [5 8]]",
		"rule \"a\" => t\nrule \"a\" => u\nrule \"a\" => v":                       "[0 1 2] [[0] [1] [2]] [[3] [4] [5]]",
		"mode m\nown c\nlet d = [0-9]\nrule <c> {d}+ => t\nrule <m,c> \".\" => u": "[0 1] [[0] [1]] [[0 2] [3]]",
	} {
		wantRows(t, text, coresOf(t, text), want)
	}
}

// Cores that expand makes none of.
func TestRowsOfOtherCores(t *testing.T) {
	a, b := set("a"), set("b")
	for _, c := range []struct {
		e    api.Expr
		want string
	}{
		{star(empty()), "[] [[0]] []"}, {plus(empty()), "[] [[0]] []"}, {cat(empty(), empty()), "[] [[0]] []"}, {alt(empty(), empty()), "[] [[0]] []"},
		{cat(empty(), a, empty()), "[0] [[0]] [[1]]"}, {cat(a, empty(), b), "[0 0] [[0]] [[1] [2]]"}, {cat(a, star(empty()), b), "[0 0] [[0]] [[1] [2]]"}, {alt(maybe(a), empty(), b), "[0 0] [[0 1 2]] [[2] [2]]"},
		{plus(plus(a)), "[0] [[0]] [[0 1]]"}, {plus(maybe(a)), "[0] [[0 1]] [[0 1]]"}, {maybe(plus(a)), "[0] [[0 1]] [[0 1]]"}, {maybe(maybe(a)), "[0] [[0 1]] [[1]]"}, {plus(star(a)), "[0] [[0 1]] [[0 1]]"},
		{cat(cat(a, maybe(b)), cat(maybe(a), b)), "[0 0 0 0] [[0]] [[1 2 3] [2 3] [3] [4]]"}, {plus(cat(star(a), star(b))), "[0 0] [[0 1 2]] [[0 1 2] [0 1 2]]"}, {plus(alt(empty(), cat(a, b))), "[0 0] [[0 2]] [[1] [0 2]]"},
		{alt(alt(a, b), alt(a, b)), "[0 0 0 0] [[0 1 2 3]] [[4] [4] [4] [4]]"}, {maybe(cat(a, plus(maybe(b)))), "[0 0] [[0 2]] [[1 2] [1 2]]"},
	} {
		wantRows(t, c.e, []api.Core{rule(c.e)}, c.want)
	}
}

func TestNoCores(t *testing.T) {
	many := rule(cat(row(set("a"), api.MaxPositions+1)...))
	for what, e := range samples.NotCores() {
		for _, c := range []api.Core{rule(e), trailed(e, set("b")), trailed(set("a"), e)} {
			wantFault(t, what, []api.Core{c}, api.CodeArg)
			wantFault(t, what+", last", []api.Core{rule(set("a")), trailed(set("a"), set("b")), c}, api.CodeArg)
			wantFault(t, what+", behind too many", []api.Core{many, c}, api.CodeArg)
		}
	}
}

// A Trail of a rule that has none is the zero Expr.
func TestTrailsThatAreNone(t *testing.T) {
	for _, trail := range samples.NotNone() {
		wantFault(t, trail, []api.Core{{Head: set("a"), Trail: trail}}, api.CodeArg)
		wantFault(t, trail, []api.Core{rule(set("a")), {Head: empty(), Trail: trail}}, api.CodeArg)
	}
	wantRows(t, "an empty list", []api.Core{{Head: set("a"), Trail: api.Expr{Args: []api.Expr{}}}}, "[0] [[0]] [[1]]")
}

func TestHowManyRules(t *testing.T) {
	many := slices.Repeat([]api.Core{rule(set("a"))}, api.MaxRules)
	f := built(t, "as many as may be", many)
	if !slices.Equal(f.Rules, upTo(0, api.MaxRules-1)) {
		t.Errorf("%v", f.Rules)
	}
	for r := range many {
		if !slices.Equal(f.First[r], []int{r}) || !slices.Equal(f.Next[r], []int{api.MaxRules + r}) {
			t.Errorf("%d: %v, %v", r, f.First[r], f.Next[r])
		}
	}
	wantFault(t, "one more", append(many, rule(set("a"))), api.CodeArg)
	wantFault(t, "one more, of no positions", append(many, rule(empty())), api.CodeArg)
	wantFault(t, "many more, of many positions", slices.Repeat([]api.Core{rule(cat(row(set("a"), 100)...))}, 1000), api.CodeArg)
}

func TestHowManyPositions(t *testing.T) {
	long := func(n int) api.Expr { return cat(row(set("a"), n)...) }
	last := api.MaxPositions - 1
	for what, l := range map[string][]api.Core{
		"a head": {rule(long(1000))}, "a trail": {trailed(empty(), long(1000))}, "a head and its trail": {trailed(long(400), long(600))}, "one and a trail": {trailed(set("a"), long(999))},
		"two rules": {rule(long(999)), rule(set("a"))}, "the last rule": {rule(empty()), rule(long(1000))}, "200 rules": slices.Repeat([]api.Core{trailed(long(2), long(3))}, 200), "sets without bytes": {rule(alt(row(set(""), 1000)...))},
	} {
		f := built(t, what, l)
		if len(f.Sets) != api.MaxPositions || f.Next[last][len(f.Next[last])-1] != api.MaxPositions+len(l)-1 {
			t.Errorf("%s: %d positions, %v", what, len(f.Sets), f.Next[last])
		}
	}
	for what, l := range map[string][]api.Core{
		"a head": {rule(long(1001))}, "a trail": {trailed(empty(), long(1001))}, "a head and its trail": {trailed(long(401), long(600))}, "a trail of one": {trailed(long(1000), set("a"))},
		"two rules": {rule(long(1000)), rule(set("a"))}, "the last rule": {rule(long(500)), rule(long(300)), trailed(long(100), long(101))}, "200 rules": append(slices.Repeat([]api.Core{trailed(long(2), long(3))}, 199), rule(long(6))),
		"sets without bytes": {rule(alt(row(set(""), 1001)...))}, "in a count": {rule(star(long(1001)))}, "as great as may be": slices.Repeat([]api.Core{trailed(long(1<<16-1), alt(row(set("a"), 1<<16-1)...))}, api.MaxRules),
	} {
		wantFault(t, what, l, api.CodeTooManyPositions)
	}
}

// The greatest cores that there are.
func TestRowsOfGreatCores(t *testing.T) {
	a, last, end := set("a"), api.MaxPositions-1, api.MaxPositions
	all := upTo(0, end)
	deep := star(set("b"))
	for range last {
		deep = star(cat(deep, maybe(a)))
	}
	for what, c := range map[string]struct {
		l           []api.Core
		first, next []int // of the first rule, and of each position
		from        bool  // only those behind the position
	}{
		"a row":             {[]api.Core{rule(cat(row(a, 1000)...))}, []int{0}, nil, true},
		"any":               {[]api.Core{rule(alt(row(a, 1000)...))}, all[:end], []int{end}, false},
		"any, again":        {[]api.Core{rule(star(alt(row(a, 1000)...)))}, all, all, false},
		"any, deep":         {[]api.Core{rule(nested(alt(row(a, 1000)...), 1<<12-2, 1, -1))}, all[:end], all, false},
		"any, deep, maybe":  {[]api.Core{rule(nested(alt(row(a, 1000)...), 1<<12-2, 0, 1))}, all, []int{end}, false},
		"maybes":            {[]api.Core{rule(cat(row(maybe(a), 1000)...))}, all, all, true},
		"maybes, again":     {[]api.Core{rule(plus(cat(row(maybe(a), 1000)...)))}, all, all, false},
		"stars of cats":     {[]api.Core{rule(deep)}, all, all, false},
		"long":              {[]api.Core{rule(cat(slices.Concat(row(maybe(a), 1000), row(empty(), 1<<16-2001))...))}, all, all, true},
		"long, in trails":   {[]api.Core{trailed(cat(row(empty(), 1<<16-1)...), cat(slices.Concat(row(empty(), 1<<16-2001), row(maybe(a), 1000))...))}, all, all, true},
		"two halves":        {[]api.Core{trailed(cat(row(maybe(a), 500)...), cat(row(maybe(a), 500)...))}, all, all, true},
		"stars of no words": {[]api.Core{rule(cat(nested(empty(), 1<<12-2, 1, -1), star(alt(row(a, 1000)...))))}, all, all, false},
	} {
		f := built(t, what, c.l)
		if !slices.Equal(f.First[0], c.first) {
			t.Errorf("%s: First is %s", what, short(f.First[0]))
		}
		for p, got := range f.Next {
			want := c.next
			switch {
			case want == nil:
				want = []int{p + 1}
			case c.from:
				want = want[p+1:]
			}
			if !slices.Equal(got, want) {
				t.Fatalf("%s: Next of %d is %s", what, p, short(got))
			}
		}
	}
}

// All 200 rules with as many expressions as may be.
func TestManyGreatRules(t *testing.T) {
	a, e := set("a"), empty()
	args := slices.Concat(row(e, 1<<15), []api.Expr{a, maybe(a)}, row(alt(e, maybe(a)), 100), row(e, 1<<14), []api.Expr{a})
	l := slices.Repeat([]api.Core{trailed(e, a)}, api.MaxRules)
	l[100] = rule(cat(args...))
	f := built(t, "great", l)
	if !slices.Equal(f.First[100], []int{100}) || !slices.Equal(f.Next[100], upTo(101, 202)) || !slices.Equal(f.Next[202], []int{302 + 100}) || !slices.Equal(f.Next[301], []int{302 + 199}) {
		t.Errorf("%v, %v, %v, %v", f.First[100], f.Next[100], f.Next[202], f.Next[301])
	}
	wide := rule(alt(row(e, 1<<16-1)...))
	f = built(t, "wide", slices.Repeat([]api.Core{wide}, api.MaxRules))
	for r, got := range f.First {
		if !slices.Equal(got, []int{r}) {
			t.Errorf("%d: %v", r, got)
		}
	}
}
