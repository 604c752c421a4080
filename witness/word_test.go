package witness_test

import (
	"math"
	"slices"
	"strings"
	"testing"

	"bolter/api"
	"bolter/samples"
)

// P13.1

func TestFirstWords(t *testing.T) {
	for _, c := range []struct {
		rules string
		want  map[int]string
	}{
		// the document's
		{`rule "ab"|"c" => t`, map[int]string{0: "c", -1: "", 1: none}},
		// the shorter one, then byte by byte
		{`rule "aaa"|"zz" => t`, map[int]string{0: "zz", -1: ""}}, {`rule "ab"|"ba" => t`, map[int]string{0: "ab"}}, {`rule "ba"|"ab" => t`, map[int]string{0: "ab"}}, {`rule "az"|"ba" => t`, map[int]string{0: "az"}},
		{`rule "bca"|"bcb"|"bba"|"cab" => t`, map[int]string{0: "bba"}}, {`rule [b-y]+"a" => t`, map[int]string{0: "ba"}}, {`rule [^a]{3} => t`, map[int]string{0: "\x00\x00\x00"}},
		// all bytes stand in order, from 0 to 255
		{`rule [\x80]|[\x7f] => t`, map[int]string{0: "\x7f"}}, {`rule [\xff] => t`, map[int]string{0: "\xff"}}, {`rule [\xfe-\xff]"a"|[\xfe]"\xff" => t`, map[int]string{0: "\xfea"}}, {`rule [^\n] => t`, map[int]string{0: "\x00"}},
		// the empty word, and none
		{`rule () => t`, map[int]string{0: "", -1: "\x00", 1: none}}, {`rule "a"* => t`, map[int]string{0: "", -1: "\x00"}}, {`rule [\x00-\x09]* => t`, map[int]string{0: "", -1: "\n"}},
		{`rule [^]* => t`, map[int]string{0: "", -1: none}}, {`rule [] => t`, map[int]string{0: none, -1: ""}}, {"", map[int]string{0: none, -1: "", 199: none}},
		{`rule [\x00-\xfe]*|[^]{2}[^]* => t`, map[int]string{0: "", -1: "\xff"}}, {`rule ()|[^]|[^]{3}[^]* => t`, map[int]string{0: "", -1: "\x00\x00"}},
		// the least rule has the text
		{"rule [a-z]+ => t\nrule \"if\" => u\nrule [a-z0-9]+ => v", map[int]string{0: "a", 1: none, 2: "0", -1: ""}}, {"rule \"if\" => u\nrule [a-z]+ => t", map[int]string{0: "if", 1: "a", 2: none}},
		{"rule \"a\"|\"b\" => t\nrule \"a\"|\"b\"|\"c\" => u", map[int]string{0: "a", 1: "c"}}, {"rule () => t\nrule \"a\"* => u", map[int]string{0: "", 1: "a"}}, {`rule "ab" / "cd"|"b" => t`, map[int]string{0: "abb"}},
	} {
		d := denseOf(t, c.rules)
		for label, want := range c.want {
			wantAnswer(t, []any{c.rules, label}, wordOf(t, c.rules, d, label), wanted(want))
			wantAnswer(t, []any{c.rules, label}, wordBy(d, label), wanted(want))
		}
	}
}

func TestFirstWordsOfAutomata(t *testing.T) {
	for what, c := range map[string]struct {
		d     api.Dense
		label int
		want  string
	}{
		"not reached":                {byTwo([]int{-1, 5}, [2]int{0, 0}, [2]int{0, 1}), 5, none},
		"one state":                  {byTwo([]int{3}, [2]int{}), 3, ""},
		"one state, another label":   {byTwo([]int{3}, [2]int{}), 2, none},
		"one state, none":            {byTwo([]int{3}, [2]int{}), -1, none},
		"no label":                   {byTwo([]int{-1}, [2]int{}), -1, ""},
		"the greatest label":         {byTwo([]int{-1, 199}, [2]int{0, 1}, [2]int{0, 1}), 199, "a"},
		"two states have it":         {byTwo([]int{-1, 4, 4}, [2]int{1, 2}, [2]int{0, 1}, [2]int{2, 0}), 4, "\x00"},
		"the state behind is nearer": {byTwo([]int{-1, 4, -1, 4}, [2]int{2, 3}, [2]int{0, 1}, [2]int{1, 0}, [2]int{3, 3}), 4, "a"},
		"back at the start":          {byTwo([]int{0, 1}, [2]int{1, 1}, [2]int{0, 0}), 0, ""},
		"by the last byte":           {lastByteTo(1), 1, "\xff"},
	} {
		wantAnswer(t, what, wordOf(t, what, c.d, c.label), wanted(c.want))
	}
}

// lastByteTo is an automaton of two states, of which byte 255 alone leads from one to the other, whose label this is.
func lastByteTo(label int) api.Dense {
	d := byTwo([]int{-1, label}, [2]int{0, 0}, [2]int{1, 1})
	d.Next[0][255] = 1
	return d
}

// Each byte leads on, and is itself in the word.
func TestEachByteIsInWords(t *testing.T) {
	for b := range 256 {
		d := samples.States(3)
		d.Next[0], d.Next[1] = make([]int, 256), slices.Repeat([]int{1}, 256)
		d.Next[0][b], d.Next[1][255-b] = 1, 2
		w := string([]byte{byte(b), byte(255 - b)})
		wantAnswer(t, b, wordOf(t, b, d, 0), word(w[:1]))
		wantAnswer(t, b, wordOf(t, b, d, 1), word(w))
		wantAnswer(t, b, apartOf(t, b, d, 0, 1), word(""))
		d.Label[0] = 0
		wantAnswer(t, b, apartOf(t, b, d, 0, 1), word(w[1:]))
	}
}

func TestLabelsThatNoneHas(t *testing.T) {
	for _, d := range []api.Dense{samples.Two(), samples.States(201), samples.States(600)} {
		for _, label := range []int{200, 201, 1 << 32, math.MaxInt} {
			wantAnswer(t, label, wordOf(t, label, d, label), nothing)
		}
		for _, label := range []int{-2, -3, -1 << 32, math.MinInt} {
			wantNoWord(t, label, d, label)
		}
	}
}

// Of so few states each is reached by a word of two bytes or fewer, if by any.
func TestWordsOfSmallAutomata(t *testing.T) {
	words := inOrder("\x00a", 3)
	for states := 1; states <= 3; states++ {
		samples.AllDense(states, 3-states/3, func(d api.Dense) {
			for label := -1; label <= 1; label++ {
				want := firstOf(words, func(w string) bool { return labelBehind(d, 0, w) == label })
				wantAnswer(t, shown(d), wordOf(t, shown(d), d, label), want)
			}
		})
	}
}

func TestWordsByChance(t *testing.T) {
	c := chance{1}
	long := 0
	for i := range 400 {
		d := c.dense(12, 5)
		if i%2 == 0 {
			d = c.ring(1 + c.Of(12))
		}
		for label := -1; label <= 6; label++ {
			want := wordBy(d, label)
			wantAnswer(t, shown(d), wordOf(t, shown(d), d, label), want)
			if len(want.word) > 2 {
				long++
			}
		}
	}
	if long < 80 {
		t.Errorf("%d words have more than two bytes", long)
	}
}

func TestWordsOfRulesByChance(t *testing.T) {
	c := chance{2}
	for range 300 {
		l := c.rules(4)
		d := denseBy(t, l)
		for label := -1; label <= len(l); label++ {
			wantAnswer(t, l, wordOf(t, l, d, label), wordBy(d, label))
		}
	}
}

func TestWordsOfGreatAutomata(t *testing.T) {
	d := samples.States(600)
	for label := -1; label < 200; label++ {
		wantAnswer(t, label, wordOf(t, label, d, label), word(strings.Repeat("\x00", label+1)))
	}
	for s := range d.Label {
		d.Label[s] = -1
	}
	wantAnswer(t, "600 alike", wordOf(t, "", d, 0), nothing)
	d.Label[599] = 0
	wantAnswer(t, "the last", wordOf(t, "", d, 0), word(strings.Repeat("\x00", 599)))
	c := chance{3}
	for range 5 {
		d := c.Dense(600, 200)
		for label := -1; label <= 200; label += 20 {
			wantAnswer(t, label, wordOf(t, label, d, label), wordBy(d, label))
		}
	}
}
