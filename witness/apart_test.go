package witness_test

import (
	"math"
	"slices"
	"strings"
	"testing"

	"bolter/api"
	"bolter/samples"
	"bolter/subset"
)

// P13.2

func TestStatesApart(t *testing.T) {
	for what, c := range map[string]struct {
		d    api.Dense
		a, b int
		want string
	}{
		"unlike labels":                 {byTwo([]int{-1, 0}, [2]int{1, 1}, [2]int{1, 1}), 0, 1, ""},
		"two labels":                    {byTwo([]int{1, 0}, [2]int{1, 1}, [2]int{1, 1}), 0, 1, ""},
		"alike, to one":                 {byTwo([]int{-1, -1, 0}, [2]int{2, 2}, [2]int{2, 2}, [2]int{2, 2}), 0, 1, none},
		"alike, to one another":         {byTwo([]int{0, 0}, [2]int{1, 1}, [2]int{0, 0}), 0, 1, none},
		"alike, to themselves":          {byTwo([]int{0, 0}, [2]int{0, 0}, [2]int{1, 1}), 0, 1, none},
		"by the first byte":             {byTwo([]int{-1, -1, 0}, [2]int{0, 0}, [2]int{2, 0}, [2]int{2, 2}), 0, 1, "\x00"},
		"by a":                          {byTwo([]int{-1, -1, 0}, [2]int{0, 0}, [2]int{0, 2}, [2]int{2, 2}), 0, 1, "a"},
		"not reached":                   {byTwo([]int{3, -1, -1, 0}, [2]int{}, [2]int{1, 1}, [2]int{2, 3}, [2]int{1, 1}), 1, 2, "a"},
		"the shorter word":              {byTwo([]int{-1, -1, -1, 0}, [2]int{2, 3}, [2]int{0, 0}, [2]int{3, 0}, [2]int{3, 3}), 0, 1, "a"},
		"one byte less":                 {byTwo([]int{-1, -1, -1, 0}, [2]int{1, 1}, [2]int{2, 2}, [2]int{3, 3}, [2]int{0, 0}), 0, 1, "\x00\x00"},
		"there and back":                {byTwo([]int{-1, -1, -1, 0}, [2]int{1, 0}, [2]int{0, 2}, [2]int{2, 3}, [2]int{3, 3}), 0, 1, "aa"},
		"by the last byte":              {lastByteTo(0), 0, 1, ""},
		"by the last byte, from others": {byLastBytes(), 1, 2, "\xff"},
	} {
		wantAnswer(t, what, apartOf(t, what, c.d, c.a, c.b), wanted(c.want))
		wantAnswer(t, what, partBy(c.d, c.d, c.a, c.b), wanted(c.want))
	}
}

// byLastBytes is an automaton whose states 1 and 2 have byte 255 alone that leads from them otherwise.
func byLastBytes() api.Dense {
	d := byTwo([]int{7, -1, -1}, [2]int{0, 0}, [2]int{1, 1}, [2]int{2, 2})
	d.Next[2][255] = 0
	return d
}

// The document's: the start and the dead state.
func TestApartOfRules(t *testing.T) {
	for _, c := range []struct{ rules, a, b, want string }{
		{`rule "ab"|"c" => t`, "", "x", "c"}, {`rule "ab"|"c" => t`, "a", "x", "b"}, {`rule "ab"|"c" => t`, "a", "", "b"}, {`rule "ab"|"c" => t`, "ab", "c", none}, {`rule "ab"|"c" => t`, "ab", "x", ""}, {`rule "ab"|"c" => t`, "aa", "x", none},
		{`rule [ab]*"a"[ab]{3} => t`, "a", "b", "\x61aa"}, {`rule [ab]*"a"[ab]{3} => t`, "aaaa", "baaa", ""}, {`rule [ab]*"a"[ab]{3} => t`, "aab", "abb", "aa"},
		{"rule \"if\" => t\nrule [a-z]+ => u", "i", "j", "f"}, {"rule \"if\" => t\nrule [a-z]+ => u", "j", "k", none}, {"rule \"if\" => t\nrule [a-z]+ => u", "if", "j", ""}, {"rule \"if\" => t\nrule [a-z]+ => u", "iff", "j", none},
		{`rule "x"{9} => t`, "", "x", "xxxxxxxx"}, {`rule "x"{9} => t`, "x", "y", "xxxxxxxx"}, {`rule ("a"|"b"){2}* => t`, "ab", "ba", none}, {`rule ("a"|"b"){2}* => t`, "ab", "b", ""},
	} {
		d := denseOf(t, c.rules)
		a, _ := subset.Run(d, []byte(c.a))
		b, err := subset.Run(d, []byte(c.b))
		if err != nil {
			t.Fatal(err)
		}
		wantAnswer(t, c, apartOf(t, c, d, a, b), wanted(c.want))
	}
}

func TestOneStateIsNotApart(t *testing.T) {
	for _, d := range []api.Dense{samples.States(1), samples.Two(), samples.States(600), byLastBytes()} {
		for s := range d.Next {
			wantAnswer(t, s, apartOf(t, s, d, s, s), nothing)
		}
	}
}

func TestStatesThatAreNone(t *testing.T) {
	for _, n := range []int{1, 2, 201, 600} {
		d := samples.States(n)
		for _, bad := range []int{-1, -2, n, n + 1, 600, 1 << 32, math.MaxInt, math.MinInt} {
			for _, other := range []int{0, n - 1, bad, -1, n} {
				wantNotApart(t, []int{bad, other}, d, bad, other)
			}
		}
	}
}

// Of so few states two are told apart by a word of one byte or of none, if by any.
func TestSmallAutomataApart(t *testing.T) {
	words := inOrder("\x00a", 3)
	for states := 1; states <= 3; states++ {
		samples.AllDense(states, 3-states/3, func(d api.Dense) {
			for a := range states {
				for b := range a + 1 {
					want := firstOf(words, func(w string) bool { return labelBehind(d, a, w) != labelBehind(d, b, w) })
					wantAnswer(t, shown(d), apartOf(t, shown(d), d, a, b), want)
				}
			}
		})
	}
}

func TestApartByChance(t *testing.T) {
	c := chance{4}
	alike := 0
	for range 800 {
		d := c.dense(10, 1)
		a, b := c.Of(len(d.Next)), c.Of(len(d.Next))
		want := partBy(d, d, a, b)
		wantAnswer(t, shown(d), apartOf(t, shown(d), d, a, b), want)
		if !want.there {
			alike++
		}
	}
	if min(alike, 800-alike) < 150 {
		t.Errorf("%d are alike", alike)
	}
}

func TestApartBehindManyPairs(t *testing.T) {
	c := chance{5}
	long := 0
	for range 500 {
		d := c.ring(4 + c.Of(9))
		a, b := c.Of(len(d.Next)), c.Of(len(d.Next))
		want := partBy(d, d, a, b)
		wantAnswer(t, shown(d), apartOf(t, shown(d), d, a, b), want)
		if len(want.word) > 3 {
			long++
		}
	}
	if long < 50 {
		t.Errorf("%d have words of more than three bytes", long)
	}
}

func TestGreatAutomataApart(t *testing.T) {
	d := samples.States(600)
	for s := range d.Label {
		d.Label[s] = -1
	}
	wantAnswer(t, "600 alike", apartOf(t, "", d, 0, 599), nothing)
	d.Label[599] = 0
	for _, c := range [][2]int{{0, 1}, {0, 598}, {3, 599}, {597, 598}, {598, 599}} {
		wantAnswer(t, c, apartOf(t, c, d, c[0], c[1]), word(strings.Repeat("\x00", 599-c[1])))
	}
	ring := ringOf(600, func(s int) int { return s / 599 })
	wantAnswer(t, "ring", apartOf(t, "ring", ring, 0, 300), word(strings.Repeat("\x00", 299)))
	wantAnswer(t, "ring", apartOf(t, "ring", ring, 0, 1), word(strings.Repeat("\x00", 598)))
	c := chance{6}
	for _, few := range []api.Dense{c.ring(30), c.Dense(30, 1)} {
		blown, like := c.Blown(few, 600)
		for range 40 {
			a, b := c.Of(600), c.Of(600)
			wantAnswer(t, []int{a, b}, apartOf(t, "great", blown, a, b), partBy(few, few, like[a], like[b]))
			wantAnswer(t, []int{a, b}, apartOf(t, "alike", blown, a, slices.Index(like, like[a])), nothing)
		}
	}
}
