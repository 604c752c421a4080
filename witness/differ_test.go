package witness_test

import (
	"strings"
	"testing"

	"bolter/api"
	"bolter/samples"
)

// P13.3

func TestDiffer(t *testing.T) {
	for _, c := range []struct{ a, b, want string }{
		// alike
		{"", "", none}, {`rule "a" => t`, `rule "a" => u`, none}, {`rule [ab]+ => t`, `rule ("a"|"b")+ => t`, none}, {`rule "a"("b"|"c") => t`, `rule "ab"|"ac" => t`, none}, {`rule "ab" => t`, `rule "a" / "b" => t`, none},
		{"", `rule [] => t`, none}, {`rule [^]* => t`, `rule ()|[^]+ => t`, none}, {"rule [a-z]+ => t", "rule [a-z]+ => t\nrule \"if\" => u", none},
		// the empty word
		{"", `rule () => t`, ""}, {`rule "a"* => t`, `rule "a"+ => t`, ""}, {"rule () => t", "rule [] => t\nrule () => u", ""},
		// the shorter one, then byte by byte
		{`rule "a" => t`, `rule "a"|"bb" => t`, "bb"}, {`rule "a"|"ccc" => t`, `rule "a"|"dd" => t`, "dd"}, {`rule "ab" => t`, `rule "ba" => t`, "ab"}, {`rule "ba"|"x" => t`, `rule "ab"|"x" => t`, "ab"}, {`rule "az"|"bz" => t`, `rule "bz"|"ba" => t`, "az"},
		{`rule [^] => t`, `rule . => t`, "\n"}, {`rule [^] => t`, `rule [\x00-\xfe] => t`, "\xff"}, {`rule [\x80]* => t`, `rule [\x7f]* => t`, "\x7f"}, {`rule [ab]{3} => t`, `rule [ab]{2} => t`, "aa"}, {`rule "a"{9} => t`, `rule "a"{9}"b"? => t`, "aaaaaaaaab"},
		{`rule ("ab")* => t`, `rule ("ab")*|("ab"){3}"a" => t`, "abababa"}, {`rule "x"{0,20} => t`, `rule "x"* => t`, strings.Repeat("x", 21)}, {`rule ("a"{3})* => t`, `rule ("a"{5})* => t`, "aaa"}, {`rule ("a"{3})+ => t`, `rule "aaa"|("a"{6})+|("a"{9})+ => t`, strings.Repeat("a", 15)},
		// the labels, not whether there are some
		{"rule \"if\" => t\nrule [a-z]+ => u", "rule [a-z]+ => t\nrule \"if\" => u", "a"}, {"rule [] => t\nrule \"a\" => u", "rule \"a\" => t", "a"}, {"rule \"if\" => t\nrule [a-z]+ => u", "rule [] => t\nrule [a-z]+ => u", "if"},
	} {
		a, b := denseOf(t, c.a), denseOf(t, c.b)
		wantAnswer(t, c, differOf(t, c, a, b), wanted(c.want))
		wantAnswer(t, c, partBy(a, b, 0, 0), wanted(c.want))
	}
}

func TestDifferOfAutomata(t *testing.T) {
	one := func(label int) api.Dense { return byTwo([]int{label}, [2]int{}) }
	for what, c := range map[string]struct {
		a, b api.Dense
		want string
	}{
		"one state":                      {one(3), one(3), none},
		"one state, other labels":        {one(3), one(4), ""},
		"one state, none":                {one(-1), one(0), ""},
		"states that are not reached":    {one(-1), byTwo([]int{-1, 5}, [2]int{0, 0}, [2]int{0, 1}), none},
		"one, and some that are like it": {one(2), byTwo([]int{2, 2, 2}, [2]int{1, 2}, [2]int{0, 1}, [2]int{2, 0}), none},
		"other numbers":                  {byTwo([]int{-1, 0, 1}, [2]int{1, 2}, [2]int{1, 1}, [2]int{2, 2}), byTwo([]int{-1, 1, 0}, [2]int{2, 1}, [2]int{1, 1}, [2]int{2, 2}), none},
		"the same number":                {byTwo([]int{-1, 0, 1}, [2]int{1, 2}, [2]int{1, 1}, [2]int{2, 2}), byTwo([]int{-1, 1, 0}, [2]int{1, 2}, [2]int{1, 1}, [2]int{2, 2}), "\x00"},
		"by the last byte":               {one(-1), lastByteTo(0), "\xff"},
		"of more states":                 {byTwo([]int{0}, [2]int{}), byTwo([]int{0, 0, 1}, [2]int{0, 1}, [2]int{0, 2}, [2]int{2, 2}), "aa"},
	} {
		wantAnswer(t, what, differOf(t, what, c.a, c.b), wanted(c.want))
	}
}

// So few states are told apart by a word of two bytes or fewer, if by any.
func TestSmallAutomataDiffer(t *testing.T) {
	var l []api.Dense
	for states := 1; states <= 2; states++ {
		samples.AllDense(states, 2, func(d api.Dense) {
			l = append(l, api.Dense{Next: append([][]int{}, d.Next...), Label: d.Label})
		})
	}
	words := inOrder("\x00a", 3)
	for _, a := range l {
		for _, b := range l {
			want := firstOf(words, func(w string) bool { return labelBehind(a, 0, w) != labelBehind(b, 0, w) })
			wantAnswer(t, shown(a)+" and "+shown(b), differOf(t, "small", a, b), want)
		}
	}
	if len(l) != 2+64 {
		t.Errorf("%d automata", len(l))
	}
}

func TestDifferByChance(t *testing.T) {
	c := chance{7}
	alike, long := 0, 0
	for range 800 {
		a := c.ring(3 + c.Of(7))
		b, _ := c.Blown(a, len(a.Next)+c.Of(7))
		if c.Of(2) == 0 {
			b.Next[c.Of(len(b.Next))][c.Of(256)] = c.Of(len(b.Next))
		}
		want := partBy(a, b, 0, 0)
		wantAnswer(t, shown(a)+" and "+shown(b), differOf(t, "by chance", a, b), want)
		if !want.there {
			alike++
		}
		if len(want.word) > 1 {
			long++
		}
	}
	if min(alike, 800-alike) < 200 || long < 100 {
		t.Errorf("%d are alike, %d have words of more than one byte", alike, long)
	}
}

func TestDifferOfRulesByChance(t *testing.T) {
	c := chance{8}
	for range 300 {
		a, b := denseBy(t, c.rules(3)), denseBy(t, c.rules(3))
		wantAnswer(t, shown(a)+" and "+shown(b), differOf(t, "rules", a, b), partBy(a, b, 0, 0))
	}
}

// Two rings of the most states that there may be part as late as can be.
func TestGreatAutomataDiffer(t *testing.T) {
	a, b := ringOf(599, onlyAt(598)), ringOf(600, onlyAt(598))
	wantAnswer(t, "rings", differOf(t, "rings", a, b), word(strings.Repeat("\x00", 599+600-2)))
	wantAnswer(t, "one ring", differOf(t, "one ring", b, b), nothing)
	wantAnswer(t, "all states", differOf(t, "all states", samples.States(600), samples.States(599)), word(strings.Repeat("\x00", 599)))
	c := chance{9}
	for range 3 {
		d := c.Dense(300, 1)
		blown, _ := c.Blown(d, 600)
		wantAnswer(t, "blown", differOf(t, "blown", d, blown), nothing)
		blown.Label[c.Of(600)] = 2
		wantAnswer(t, "one label", differOf(t, "one label", d, blown), partBy(d, blown, 0, 0))
	}
}
