package subset_test

import (
	"slices"
	"testing"

	"bolter/api"
	"bolter/match"
	"bolter/samples"
	"bolter/subset"
)

// P11.4

// wantLabel asks that behind a text the automaton's label is the text's; it tells that label.
func wantLabel(t *testing.T, l []api.Core, active []int, d api.Dense, text string) int {
	t.Helper()
	want, err := match.Label(l, active, []byte(text))
	if err != nil {
		t.Fatalf("%s: %v", short(l), err)
	}
	if s, err := subset.Run(d, []byte(text)); err != nil || d.Label[s] != want {
		t.Errorf("%s, %v: behind %q comes state %d, %v; the label is %d", short(l), active, text, s, err, want)
	}
	return want
}

func TestLabelsBehindTexts(t *testing.T) {
	l, err := samples.Cores("rule \"if\" => t\nrule [a-z]+ => u\nrule [a-z]+ / \".\" => v\nrule ()|\"\\xff\"* => w")
	if err != nil {
		t.Fatal(err)
	}
	f := placed(t, l)
	for _, c := range []struct {
		active []int
		text   string
		want   int
	}{
		{[]int{0, 1, 2, 3}, "if", 0}, {[]int{0, 1, 2, 3}, "iff", 1}, {[]int{0, 1, 2, 3}, "i", 1}, {[]int{0, 1, 2, 3}, "if.", 2}, {[]int{0, 1, 2, 3}, "if..", -1}, {[]int{0, 1, 2, 3}, "", 3}, {[]int{0, 1, 2, 3}, "\xff\xff", 3},
		{[]int{1, 3}, "if", 1}, {[]int{1, 3}, "if.", -1}, {[]int{0}, "", -1}, {[]int{0}, "if", 0}, {[]int{0}, "iff", -1}, {nil, "", -1}, {nil, "if", -1}, {[]int{2}, "i.", 2}, {[]int{2}, ".", -1}, {[]int{3}, "\xffa", -1},
	} {
		d := built(t, l, f, c.active)
		if got := wantLabel(t, l, c.active, d, c.text); got != c.want {
			t.Errorf("%v: %q has the label %d, want %d", c.active, c.text, got, c.want)
		}
	}
}

func TestLabelsOfSmallCores(t *testing.T) {
	for _, e := range samples.Small(empty(), set(""), set("a"), set("ab")) {
		l := []api.Core{rule(e)}
		d := built(t, e, placed(t, l), []int{0})
		for _, text := range []string{"", "a", "b", "c", "aa", "ab", "ba", "bb", "aaa", "aba", "abb", "bab", "aaaa", "abab"} {
			wantLabel(t, l, []int{0}, d, text)
		}
	}
}

func TestLabelsByChance(t *testing.T) {
	c := chance{4}
	taken := 0
	for range 1500 {
		l := c.rules(3)
		active := c.some(len(l))
		d := built(t, l, placed(t, l), active)
		for range 12 {
			if wantLabel(t, l, active, d, c.Text(7)) >= 0 {
				taken++
			}
		}
	}
	if taken < 2000 {
		t.Errorf("%d texts have a label", taken)
	}
}

// All states can be reached; they are numbered so.
func TestStatesAsTheyAreFound(t *testing.T) {
	c := chance{5}
	for range 500 {
		l := c.rules(4)
		f := placed(t, l)
		for _, active := range [][]int{c.some(len(l)), upTo(0, len(l)-1)} {
			if d := built(t, l, f, active); !slices.Equal(foundFrom0(d), upTo(0, len(d.Next)-1)) {
				t.Errorf("%s, %v: %s", short(l), active, shown(d))
			}
		}
		wild := c.follow(1+c.Of(3), 5)
		if d := built(t, wild, wild, []int{0}); !slices.Equal(foundFrom0(d), upTo(0, len(d.Next)-1)) {
			t.Errorf("%+v: %s", wild, shown(d))
		}
	}
}

// Rules of many positions, whose sets of places are great.
func TestLabelsOfGreatRules(t *testing.T) {
	l := []api.Core{rule(samples.Cat(slices.Repeat([]api.Expr{maybe(set("a"))}, 500)...)), rule(samples.Cat(slices.Repeat([]api.Expr{set("ab")}, 40)...)), rule(samples.Star(set("ab")))}
	f := placed(t, l)
	for _, active := range [][]int{{0}, {0, 1}, {1, 2}, {0, 1, 2}} {
		d := built(t, "great", f, active)
		for _, n := range []int{0, 1, 2, 39, 40, 41, 499, 500, 501, 2000} {
			text := slices.Repeat([]byte("a"), n)
			wantLabel(t, l, active, d, string(text))
			wantLabel(t, l, active, d, string(append(text, 'b')))
			wantLabel(t, l, active, d, string(append(text, 'c')))
		}
	}
}
