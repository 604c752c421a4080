package minimise_test

import (
	"testing"

	"bolter/api"
	"bolter/samples"
)

// P12.2

func TestLeastAutomata(t *testing.T) {
	for what, c := range map[string]struct {
		d    api.Dense
		want string
	}{
		// the document's
		"two that lead to one another": {byTwo([]int{-1, 0, 0}, [2]int{1, 1}, [2]int{2, 2}, [2]int{1, 1}), "-1: 00>1; 0: 00>1"},
		"one is not reached":           {byTwo([]int{-1, 5}, [2]int{0, 0}, [2]int{0, 1}), "-1: 00>0"},
		"one state":                    {byTwo([]int{3}, [2]int{}), "3: 00>0"},
		// the start is state 0, whatever its class and its label are
		"all are alike":                      {byTwo([]int{4, 4, 4}, [2]int{1, 2}, [2]int{0, 1}, [2]int{2, 0}), "4: 00>0"},
		"back to what is like the start":     {byTwo([]int{-1, 0, -1}, [2]int{1, 1}, [2]int{2, 2}, [2]int{1, 1}), "-1: 00>1; 0: 00>0"},
		"the start is like what is not its":  {byTwo([]int{0, 0, 1}, [2]int{2, 2}, [2]int{2, 2}, [2]int{2, 0}), "0: 00>1; 1: 00>1 a>0 b>1"},
		"the least of its class is not seen": {byTwo([]int{-1, 0, 0, 0}, [2]int{3, 2}, [2]int{1, 2}, [2]int{3, 3}, [2]int{2, 3}), "-1: 00>1; 0: 00>1"},
		// numbers as they are found
		"the last is found first": {byTwo([]int{-1, 0, 1}, [2]int{2, 1}, [2]int{1, 1}, [2]int{2, 2}), "-1: 00>1 a>2 b>1; 1: 00>1; 0: 00>2"},
		"found from the second":   {byTwo([]int{-1, 3, 2, 1}, [2]int{3, 0}, [2]int{1, 1}, [2]int{2, 1}, [2]int{2, 3}), "-1: 00>1 a>0 b>1; 1: 00>2 a>1 b>2; 2: 00>2 a>3 b>2; 3: 00>3"},
		"those not reached":       {byTwo([]int{0, 0, 0, 1}, [2]int{}, [2]int{2, 0}, [2]int{3, 0}, [2]int{}), "0: 00>0"},
		"a label of those alone":  {byTwo([]int{-1, 199, -1}, [2]int{2, 2}, [2]int{0, 2}, [2]int{0, 0}), "-1: 00>0"},
		"all are their own":       {byTwo([]int{-1, -1, -1, 7}, [2]int{2, 1}, [2]int{2, 3}, [2]int{2, 2}, [2]int{2, 3}), "-1: 00>1 a>2 b>1; -1: 00>1; -1: 00>1 a>3 b>1; 7: 00>1 a>3 b>1"},
	} {
		if got := shown(leastOf(t, what, c.d)); got != c.want {
			t.Errorf("%s: %s, want %s", what, got, c.want)
		}
		wantFormal(t, what, c.d)
	}
}

func TestLeastOfRules(t *testing.T) {
	for _, c := range []struct {
		rules  string
		active []int
		want   string
	}{
		{`rule "a" => t`, []int{0}, "-1: 00>1 a>2 b>1; -1: 00>1; 0: 00>1"},
		{`rule "a" => t`, nil, "-1: 00>0"}, {`rule [] => t`, []int{0}, "-1: 00>0"}, {`rule "a"[] => t`, []int{0}, "-1: 00>0"},
		{`rule []* => t`, []int{0}, "0: 00>1; -1: 00>1"}, {`rule [^]* => t`, []int{0}, "0: 00>0"}, {`rule ()|[^]+ => t`, []int{0}, "0: 00>0"},
		{`rule "a"("b"|"c") => t`, []int{0}, "-1: 00>1 a>2 b>1; -1: 00>1; -1: 00>1 b>3 d>1; 0: 00>1"},
		{`rule "a"*"a"* => t`, []int{0}, "0: 00>1 a>0 b>1; -1: 00>1"},
		{`rule [\x00]|[\xff] => t`, []int{0}, "-1: 00>1 01>2 ff>1; 0: 00>2; -1: 00>2"},
		{"rule \"a\"|\"b\" => t\nrule \"a\" => u", []int{0, 1}, "-1: 00>1 a>2 c>1; -1: 00>1; 0: 00>1"},
		{"rule \"a\" => t\nrule \"a\"|\"b\" => u", []int{0, 1}, "-1: 00>1 a>2 b>3 c>1; -1: 00>1; 0: 00>1; 1: 00>1"},
		{"rule [ab]+ => t\nrule \"aa\" => u", []int{0, 1}, "-1: 00>1 a>2 c>1; -1: 00>1; 0: 00>1 a>2 c>1"},
		{"rule \"if\" => t\nrule [a-z]+ => u", []int{0, 1}, "-1: 00>1 a>2 i>3 j>2 7b>1; -1: 00>1; 1: 00>1 a>2 7b>1; 1: 00>1 a>2 f>4 g>2 7b>1; 0: 00>1 a>2 7b>1"},
	} {
		d := denseOf(t, c.rules, c.active...)
		if got := shown(leastOf(t, c.rules, d)); got != c.want {
			t.Errorf("%s, %v: %s, want %s", c.rules, c.active, got, c.want)
		}
		wantFormal(t, c.rules, d)
	}
}

func TestLeastOfSmallCores(t *testing.T) {
	for _, e := range samples.Small(empty(), set(""), set("a"), set("ab")) {
		wantFormal(t, e, denseBy(t, []api.Core{rule(e)}, 0))
	}
}

func TestLeastByChance(t *testing.T) {
	c := chance{4}
	fewer := 0
	for range 1000 {
		d := c.dense()
		wantFormal(t, shown(d), d)
		if len(leastOf(t, shown(d), d).Next) < len(d.Next) {
			fewer++
		}
	}
	if fewer < 400 {
		t.Errorf("%d are not the least", fewer)
	}
}

func TestLeastOfRulesByChance(t *testing.T) {
	c := chance{5}
	for range 700 {
		l := c.rules(4)
		d := denseBy(t, l, upTo(0, len(l)-1)...)
		wantFormal(t, l, d)
	}
}

func TestGreatLeast(t *testing.T) {
	wantLeast(t, "600 states", samples.States(600), samples.States(600))
	one := samples.States(600)
	clear(one.Label)
	wantLeast(t, "600 alike", one, api.Dense{Next: [][]int{make([]int, 256)}, Label: []int{0}})
	for _, by := range []int{5, 8, 120, 200, 300} {
		label := func(s int) int { return s % by / 4 }
		wantLeast(t, by, ringOf(600, label), ringOf(by, label))
	}
	d := denseOf(t, `rule [ab]* "a" [ab]{8} => t`, 0)
	wantLeast(t, "512 states, and the dead one", d, d)
}
