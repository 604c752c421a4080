package witness_test

import (
	"math"
	"slices"
	"testing"

	"bolter/api"
	"bolter/samples"
)

// P13.4

func TestNever(t *testing.T) {
	for _, c := range []struct {
		files []string
		rules int
		want  []int
	}{
		// the document's
		{[]string{"rule [a-z]+ => t\nrule \"if\" => u"}, 2, []int{1}}, {[]string{"rule () => t"}, 1, []int{0}},
		// no automata
		{nil, 0, nil}, {nil, 1, []int{0}}, {nil, 3, []int{0, 1, 2}}, {nil, 200, upTo(0, 199)},
		// the empty word alone doesn't count, with others it does
		{[]string{"rule \"a\"* => t"}, 1, nil}, {[]string{"rule ()|\"a\" => t"}, 1, nil}, {[]string{"rule () => t\nrule \"a\"* => u"}, 2, []int{0}}, {[]string{"rule [^]* => t"}, 1, nil}, {[]string{"rule ()|[] => t\nrule () => u"}, 2, []int{0, 1}},
		// no words, or none that a rule ahead doesn't take
		{[]string{"rule [] => t\nrule \"a\" => u\nrule \"a\"[] => v"}, 3, []int{0, 2}}, {[]string{"rule [ab] => t\nrule \"a\" => u\nrule \"b\"|\"a\" => v\nrule \"b\"|\"c\" => w"}, 4, []int{1, 2}}, {[]string{"rule \"if\" => u\nrule [a-z]+ => t"}, 2, nil},
		// fewer rules, or more, than there are
		{[]string{"rule [a-z]+ => t\nrule \"if\" => u"}, 1, nil}, {[]string{"rule [a-z]+ => t\nrule \"if\" => u"}, 0, nil}, {[]string{"rule [a-z]+ => t\nrule \"if\" => u"}, 4, []int{1, 2, 3}}, {[]string{"rule () => t\nrule \"a\" => u"}, 1, []int{0}}, {[]string{""}, 2, []int{0, 1}},
		// each automaton counts
		{[]string{"rule \"a\" => t", "rule [] => t\nrule \"b\" => u"}, 3, []int{2}}, {[]string{"rule [] => t\nrule \"b\" => u", "rule \"a\" => t"}, 3, []int{2}}, {[]string{"", "rule () => t", "rule () => t\nrule () => u\nrule [] => v\nrule \"x\" => w"}, 4, []int{0, 1, 2}},
	} {
		var l []api.Dense
		for _, text := range c.files {
			l = append(l, denseOf(t, text))
		}
		wantNever(t, c.files, l, c.rules, c.want...)
	}
}

func TestNeverOfAutomata(t *testing.T) {
	for what, c := range map[string]struct {
		d     api.Dense
		rules int
		want  []int
	}{
		"the start's label alone":   {byTwo([]int{0, 1}, [2]int{1, 1}, [2]int{1, 1}), 3, []int{0, 2}},
		"the start is come back to": {byTwo([]int{0, 1}, [2]int{1, 1}, [2]int{1, 0}), 3, []int{2}},
		"one state":                 {byTwo([]int{1}, [2]int{}), 3, []int{0, 2}},
		"the start's label again":   {byTwo([]int{0, 0}, [2]int{1, 1}, [2]int{1, 1}), 1, nil},
		"not reached":               {byTwo([]int{-1, 0}, [2]int{0, 0}, [2]int{1, 1}), 1, []int{0}},
		"reached from those alone":  {byTwo([]int{1, 2, 0}, [2]int{0, 0}, [2]int{2, 0}, [2]int{1, 2}), 3, []int{0, 2}},
		"by the last byte":          {lastByteTo(2), 3, []int{0, 1}},
		"the last rule":             {lastByteTo(199), 200, upTo(0, 198)},
		"labels of others":          {lastByteTo(199), 199, upTo(0, 198)},
		"all rules":                 {samples.States(201), 200, nil},
		"all rules, thrice":         {samples.States(600), 200, nil},
		"all rules but one":         {samples.States(200), 200, []int{199}},
	} {
		wantNever(t, what, []api.Dense{c.d}, c.rules, c.want...)
	}
}

func TestNumbersOfRules(t *testing.T) {
	for _, l := range [][]api.Dense{nil, {samples.States(1)}, {samples.Two(), samples.States(600)}} {
		for _, rules := range []int{-1, -2, 201, 202, 1 << 32, math.MaxInt, math.MinInt} {
			wantNoNever(t, len(l), l, rules)
		}
		for _, rules := range []int{0, 1, 199, 200} {
			neverOf(t, rules, l, rules)
		}
	}
}

// Many automata, each of which has a rule of its own.
func TestNeverOfMany(t *testing.T) {
	var l []api.Dense
	for rule := range 200 {
		wantNever(t, rule, l, 200, upTo(rule, 199)...)
		l = append(l, lastByteTo(rule))
	}
	wantNever(t, "all", l, 200)
	slices.Reverse(l)
	wantNever(t, "reversed", l, 200)
	wantNever(t, "one, often", slices.Repeat(l[7:8], 5000), 200, append(upTo(0, 191), upTo(193, 199)...)...)
}

// neverBy reads P13.4 once more: by words of these bytes, of so many or fewer.
func neverBy(l []api.Dense, rules int, words []string) []int {
	var out []int
	for rule := range rules {
		if !slices.ContainsFunc(l, func(d api.Dense) bool {
			return slices.ContainsFunc(words, func(w string) bool { return w != "" && labelBehind(d, 0, w) == rule })
		}) {
			out = append(out, rule)
		}
	}
	return out
}

func TestNeverOfSmallAutomata(t *testing.T) {
	words := inOrder("\x00a", 3)
	last := samples.States(1)
	for states := 1; states <= 3; states++ {
		samples.AllDense(states, 3-states/3, func(d api.Dense) {
			d.Next = slices.Clone(d.Next)
			l := []api.Dense{d, last}
			wantNever(t, shown(d), l[:1], 3, neverBy(l[:1], 3, words)...)
			wantNever(t, shown(d), l, 2, neverBy(l, 2, words)...)
			last = d
		})
	}
}

func TestNeverByChance(t *testing.T) {
	c := chance{10}
	words := inOrder("\x00\x01ab\xff", 4)
	for range 150 {
		var l []api.Dense
		for range c.Of(4) {
			d := c.Dense(1+c.Of(4), 3)
			for s := range d.Label {
				d.Label[s] = max(d.Label[s]*3, -1)
			}
			l = append(l, d)
		}
		wantNever(t, len(l), l, 8, neverBy(l, 8, words)...)
	}
}
