package subset_test

import (
	"math"
	"slices"
	"testing"

	"bolter/api"
	"bolter/byteset"
	"bolter/samples"
)

// P11.1

func TestAutomataOfRules(t *testing.T) {
	for _, c := range []struct {
		rules  string
		active []int
		want   string
	}{
		// the document's
		{`rule "a" => t`, []int{0}, "-1: 00>1 a>2 b>1; -1: 00>1; 0: 00>1"},
		{`rule "a" => t`, nil, "-1: 00>0"}, {``, nil, "-1: 00>0"},
		{`rule [^]* => t`, []int{0}, "0: 00>0"},
		{`rule []"a" => t`, []int{0}, "-1: 00>1; -1: 00>1"},
		// numbers as they are found
		{`rule "ab"|"ca" => t`, []int{0}, "-1: 00>1 a>2 b>1 c>3 d>1; -1: 00>1; -1: 00>1 b>4 c>1; -1: 00>1 a>4 b>1; 0: 00>1"},
		{`rule "ca"|"ab" => t`, []int{0}, "-1: 00>1 a>2 b>1 c>3 d>1; -1: 00>1; -1: 00>1 b>4 c>1; -1: 00>1 a>4 b>1; 0: 00>1"},
		{`rule "a"*"b" => t`, []int{0}, "-1: 00>1 a>0 b>2 c>1; -1: 00>1; 0: 00>1"},
		{`rule [^a]"b" => t`, []int{0}, "-1: 00>1 a>2 b>1; -1: 00>2 b>3 c>2; -1: 00>2; 0: 00>2"},
		{`rule [^\xff]* "\xff" => t`, []int{0}, "-1: 00>0 ff>1; 0: 00>2; -1: 00>2"},
		{`rule "\x00\xff" => t`, []int{0}, "-1: 00>1 01>2; -1: 00>2 ff>3; -1: 00>2; 0: 00>2"},
		{`rule ([^]"a")* => t`, []int{0}, "0: 00>1; -1: 00>2 a>0 b>2; -1: 00>2"},
		// the empty word, no words
		{`rule () => t`, []int{0}, "0: 00>1; -1: 00>1"},
		{`rule "a"? => t`, []int{0}, "0: 00>1 a>2 b>1; -1: 00>1; 0: 00>1"},
		{`rule [] => t`, []int{0}, "-1: 00>1; -1: 00>1"},
		{`rule []* => t`, []int{0}, "0: 00>1; -1: 00>1"},
		{`rule "a"[] => t`, []int{0}, "-1: 00>1 a>2 b>1; -1: 00>1; -1: 00>1"},
		// trails
		{`rule "a" / "b" => t`, []int{0}, "-1: 00>1 a>2 b>1; -1: 00>1; -1: 00>1 b>3 c>1; 0: 00>1"},
		// several rules: the least one that takes it; sets of unlike places are two, be they read alike
		{"rule \"a\" => t\nrule \"a\"|\"b\" => u", []int{0, 1}, "-1: 00>1 a>2 b>3 c>1; -1: 00>1; 0: 00>1; 1: 00>1"},
		{"rule \"a\"|\"b\" => t\nrule \"a\" => u", []int{0, 1}, "-1: 00>1 a>2 b>3 c>1; -1: 00>1; 0: 00>1; 0: 00>1"},
		{"rule \"a\" => t\nrule \"a\"|\"b\" => u", []int{1}, "-1: 00>1 a>2 c>1; -1: 00>1; 1: 00>1"},
		{"rule \"a\" => t\nrule \"a\"|\"b\" => u", []int{0}, "-1: 00>1 a>2 b>1; -1: 00>1; 0: 00>1"},
		{"rule \"a\" => t\nrule \"a\"|\"b\" => u", nil, "-1: 00>0"},
		{"rule \"z\" => t\nrule \"a\" => u", []int{1}, "-1: 00>1 a>2 b>1; -1: 00>1; 1: 00>1"},
		{"rule [ab]+ => t\nrule \"aa\" => u", []int{0, 1}, "-1: 00>1 a>2 b>3 c>1; -1: 00>1; 0: 00>1 a>4 b>3 c>1; 0: 00>1 a>3 c>1; 0: 00>1 a>3 c>1"},
		{"rule () => t\nrule \"a\"* => u\nrule \"a\" => v", []int{0, 1, 2}, "0: 00>1 a>2 b>1; -1: 00>1; 1: 00>1 a>3 b>1; 1: 00>1 a>3 b>1"},
		{"rule () => t\nrule \"a\"* => u\nrule \"a\" => v", []int{1, 2}, "1: 00>1 a>2 b>1; -1: 00>1; 1: 00>1 a>3 b>1; 1: 00>1 a>3 b>1"},
		{"rule () => t\nrule \"a\"* => u\nrule \"a\" => v", []int{0, 2}, "0: 00>1 a>2 b>1; -1: 00>1; 2: 00>1"},
		{"rule \"b\" => t\nrule []\"a\" => u", []int{0, 1}, "-1: 00>1 b>2 c>1; -1: 00>1; 0: 00>1"},
	} {
		f := followOf(t, c.rules)
		if got := shown(built(t, c.rules, f, c.active)); got != c.want {
			t.Errorf("%s, %v: %s, want %s", c.rules, c.active, got, c.want)
		}
		wantFormal(t, c.rules, f, c.active)
	}
}

// Automata that may be, though no rules bring them forth.
func TestOtherAutomata(t *testing.T) {
	a, b := byteset.Of('a'), byteset.Of('b')
	for what, c := range map[string]struct {
		f      api.Follow
		active []int
		want   string
	}{
		"nothing":                {api.Follow{}, nil, "-1: 00>0"},
		"no places":              {api.Follow{First: [][]int{nil, {}}}, []int{0, 1}, "-1: 00>0"},
		"ends alone":             {api.Follow{First: [][]int{{0}, {1}}}, []int{1}, "1: 00>1; -1: 00>1"},
		"two ends":               {api.Follow{First: [][]int{{0}, {1}}}, []int{0, 1}, "0: 00>1; -1: 00>1"},
		"nothing behind":         {api.Follow{Sets: []api.Set{a}, Rules: []int{0}, First: [][]int{{0}}, Next: [][]int{nil}}, []int{0}, "-1: 00>1; -1: 00>1"},
		"never the empty set":    {ring(3, byteset.All()), []int{0}, "-1: 00>1; -1: 00>2; -1: 00>0"},
		"a ring":                 {ring(2, a), []int{0}, "-1: 00>1 a>2 b>1; -1: 00>1; -1: 00>1 a>0 b>1"},
		"an end, and no others":  {api.Follow{Sets: []api.Set{a, b}, Rules: []int{0, 0}, First: [][]int{{0, 1, 2}}, Next: [][]int{{2}, {0, 1, 2}}}, []int{0}, "0: 00>1 a>2 b>0 c>1; -1: 00>1; 0: 00>1"},
		"back to the start":      {api.Follow{Sets: []api.Set{a, a, a}, Rules: []int{0, 0, 0}, First: [][]int{{0, 2}}, Next: [][]int{{0}, {3}, {1, 2}}}, []int{0}, "-1: 00>1 a>2 b>1; -1: 00>1; -1: 00>1 a>3 b>1; 0: 00>1 a>3 b>1"},
		"of the last rule alone": {api.Follow{Sets: []api.Set{b}, Rules: []int{2}, First: [][]int{{1}, {2}, {0}}, Next: [][]int{{0, 3}}}, []int{2}, "-1: 00>1 b>2 c>1; -1: 00>1; 2: 00>1 b>2 c>1"},
	} {
		if got := shown(built(t, what, c.f, c.active)); got != c.want {
			t.Errorf("%s: %s, want %s", what, got, c.want)
		}
		wantFormal(t, what, c.f, c.active)
	}
}

func TestSmallCoresFormally(t *testing.T) {
	for _, e := range samples.Small(empty(), set(""), set("a"), set("ab")) {
		wantFormal(t, e, placed(t, []api.Core{rule(e)}), []int{0})
	}
}

func TestRulesByChanceFormally(t *testing.T) {
	c := chance{1}
	most := 0
	for range 1500 {
		l := c.rules(4)
		f, active := placed(t, l), c.some(len(l))
		wantFormal(t, l, f, active)
		most = max(most, len(built(t, l, f, active).Next))
	}
	if most < 12 {
		t.Errorf("at most %d states", most)
	}
}

func TestAutomataByChanceFormally(t *testing.T) {
	c := chance{2}
	for range 1500 {
		f := c.follow(c.Of(4), 5)
		wantFormal(t, f, f, c.some(len(f.First)))
	}
}

// All bytes are gone through, each in its place.
func TestEachByte(t *testing.T) {
	f := api.Follow{First: [][]int{upTo(0, 255)}}
	for b := range 256 {
		f.Sets, f.Rules = append(f.Sets, byteset.Of(byte(255-b))), append(f.Rules, 0)
		f.Next = append(f.Next, []int{b})
	}
	d := built(t, "each byte", f, []int{0})
	if !slices.Equal(d.Next[0], upTo(1, 256)[:256]) || len(d.Next) != 258 {
		t.Fatalf("%v, %d states", d.Next[0], len(d.Next))
	}
	for s, row := range d.Next[1:257] {
		if row[s] != s+1 || row[(s+1)%256] != 257 {
			t.Errorf("state %d: %v", s+1, row)
		}
	}
	wantFormal(t, "each byte", f, []int{0})
}

// The greatest automata: places stand in all words of the sets.
func TestGreatAutomata(t *testing.T) {
	last := api.Follow{Sets: slices.Repeat([]api.Set{byteset.All()}, 1000), Rules: slices.Repeat([]int{199}, 1000), First: make([][]int, 200)}
	last.First[199] = append(upTo(0, 999), 1199)
	for p := range 1000 {
		last.Next = append(last.Next, last.First[199][p/2:])
	}
	for _, active := range [][]int{{199}, upTo(0, 199)} {
		wantDense(t, "the last rule", last, active, api.Dense{Next: [][]int{make([]int, 256)}, Label: []int{199}})
	}
	for p := range 1000 {
		last.Sets[p], last.Next[p] = byteset.Of(byte(p/4)), []int{(p * 7 % 1000), 1199}
	}
	last.First[199] = []int{0, 333, 998}
	wantFormal(t, "the last rule, by some bytes", last, []int{199})

	wide := placed(t, slices.Repeat([]api.Core{rule(plus(alt(set("a"), set("b"), set("ab"), set("c"), set("d"))))}, 200))
	wantFormal(t, "200 rules", wide, upTo(0, 199))
	wantFormal(t, "the last 100 of 200 rules", wide, upTo(100, 199))
	for n := range 20 {
		size := 55 + n
		f := ring(size, byteset.Of('a'))
		for p := range size {
			f.Next[p] = append(f.Next[p], size)
			slices.Sort(f.Next[p])
		}
		wantFormal(t, size, f, []int{0})
	}
}

func TestHowManyStates(t *testing.T) {
	all, a := byteset.All(), byteset.Of('a')
	for what, c := range map[string]struct {
		f      api.Follow
		states int // 0: too many
	}{
		"without the empty set":              {ring(599, all), 599},
		"without the empty set, one more":    {ring(600, all), 0},
		"with the empty set":                 {ring(599, a), 600},
		"with the empty set, one more":       {ring(600, a), 0},
		"many more":                          {ring(1000, a), 0},
		"sets of several":                    {followOf(t, `rule ([ab]* "a" [ab]{7}) => t`), 257},
		"more sets than there can be":        {followOf(t, `rule ([ab]* "a" [ab]{100}) => t`), 0},
		"sets of several, a few too many":    {followOf(t, `rule ([ab]* "a" [ab]{8}) | "c"{85} => t`), 599},
		"sets of several, one too many":      {followOf(t, `rule ([ab]* "a" [ab]{8}) | "c"{87} => t`), 0},
		"sets of several, as many as may be": {followOf(t, `rule ([ab]* "a" [ab]{8}) | "c"{86} => t`), 600},
	} {
		if c.states == 0 {
			wantFault(t, what, c.f, []int{0}, api.CodeTooManyStates)
			continue
		}
		if d := built(t, what, c.f, []int{0}); len(d.Next) != c.states {
			t.Errorf("%s: %d states, want %d", what, len(d.Next), c.states)
		}
	}
	built(t, "not active", ring(1000, a), nil)
	wantFormal(t, "600 states", ring(599, a), []int{0})
	wantFormal(t, "599 states", ring(599, all), []int{0})
}

func TestThoseThatMayNotBe(t *testing.T) {
	for what, change := range map[string]func(f *api.Follow){
		"a set less":       func(f *api.Follow) { f.Sets = f.Sets[:1] },
		"a row less":       func(f *api.Follow) { f.Next = f.Next[:1] },
		"no rules":         func(f *api.Follow) { f.First = nil },
		"a rule of none":   func(f *api.Follow) { f.Rules[1] = 2 },
		"rules that fall":  func(f *api.Follow) { f.Rules = []int{1, 0} },
		"a place of none":  func(f *api.Follow) { f.Next[1] = []int{4} },
		"below 0":          func(f *api.Follow) { f.First[0] = []int{-1} },
		"the greatest":     func(f *api.Follow) { f.First[1] = []int{math.MaxInt} },
		"another's place":  func(f *api.Follow) { f.First[0] = []int{1} },
		"one place twice":  func(f *api.Follow) { f.First[0] = []int{0, 0} },
		"many rules":       func(f *api.Follow) { f.First = append(f.First, make([][]int, 199)...) },
		"many positions":   func(f *api.Follow) { *f = ring(1001, byteset.All()) },
		"many of its sets": func(f *api.Follow) { f.Sets = make([]api.Set, 1<<16) },
	} {
		for _, active := range [][]int{nil, {0}, {0, 1}} {
			f := followOf(t, "rule \"a\" => t\nrule \"b\" => u")
			change(&f)
			wantFault(t, what, f, active, api.CodeArg)
		}
	}
}

func noActive() [][]int {
	return [][]int{{3}, {-1}, {0, 3}, {0, 0}, {1, 0}, {2, 1}, {0, 1, 1}, {0, 2, 1}, {0, 1, 2, 3}, {-1, 0}, {math.MinInt}, {math.MaxInt}, {0, math.MinInt}, {0, math.MaxInt}, make([]int, 1<<20)}
}

func TestNoRulesOfIts(t *testing.T) {
	three := followOf(t, "rule \"a\" => t\nrule \"b\" => u\nrule () => v")
	for _, active := range noActive() {
		wantFault(t, "three rules", three, active, api.CodeArg)
	}
	for _, active := range [][]int{{0}, {0, 1}, {-1}} {
		wantFault(t, "no rules", api.Follow{}, active, api.CodeArg)
	}
	// CodeArg stands ahead of CodeTooManyStates.
	many := ring(1000, byteset.Of('a'))
	for _, active := range [][]int{{0, 1}, {0, 0}, {0, -1}} {
		wantFault(t, "many states", many, active, api.CodeArg)
	}
	most := api.Follow{First: make([][]int, 200)}
	built(t, "as many as may be", most, upTo(0, 199))
	wantFault(t, "one more", most, upTo(0, 200), api.CodeArg)
	wantFault(t, "the next one", most, []int{200}, api.CodeArg)
}
