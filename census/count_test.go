package census_test

import (
	"math"
	"math/big"
	"strings"
	"testing"

	"bolter/api"
	"bolter/samples"
)

// P14.1

func TestCounts(t *testing.T) {
	for _, c := range []struct {
		rules    string
		label, n int
		want     number
	}{
		// the document's
		{`rule [ab]+ => t`, 0, 3, exactly(8)}, {`rule [ab]+ => t`, 0, 0, exactly(0)}, {`rule [ab]+ => t`, -1, 0, exactly(1)},
		{`rule [ab]+ => t`, -1, 8, exactly(18446744073709551360)}, {`rule [ab]+ => t`, -1, 9, tooMany},
		// none, the empty word, words of one length alone
		{``, 0, 0, exactly(0)}, {``, -1, 0, exactly(1)}, {``, -1, 1, exactly(256)}, {``, 0, 64, exactly(0)}, {`rule [] => t`, 0, 5, exactly(0)},
		{`rule () => t`, 0, 0, exactly(1)}, {`rule () => t`, 0, 1, exactly(0)}, {`rule () => t`, -1, 0, exactly(0)}, {`rule () => t`, -1, 1, exactly(256)},
		{`rule "abc" => t`, 0, 3, exactly(1)}, {`rule "abc" => t`, 0, 2, exactly(0)}, {`rule "abc" => t`, 0, 4, exactly(0)}, {`rule "abc" => t`, -1, 3, exactly(1<<24 - 1)},
		{`rule "ab"|"ba"|"c"|"ab" => t`, 0, 2, exactly(2)}, {`rule "a" / "b"* => t`, 0, 7, exactly(1)},
		// all bytes
		{`rule [^] => t`, 0, 1, exactly(256)}, {`rule [^\xff] => t`, 0, 1, exactly(255)}, {`rule [^\x00] => t`, 0, 1, exactly(255)}, {`rule [\xff] => t`, 0, 1, exactly(1)}, {`rule [^]{7} => t`, 0, 7, exactly(1 << 56)},
		// several labels
		{"rule \"if\" => t\nrule [a-z]+ => u", 1, 2, exactly(675)}, {"rule \"if\" => t\nrule [a-z]+ => u", 0, 2, exactly(1)}, {"rule \"if\" => t\nrule [a-z]+ => u", -1, 2, exactly(64860)},
		{"rule \"if\" => t\nrule [a-z]+ => u", 2, 2, exactly(0)}, {"rule [a-z]+ => t\nrule \"if\" => u", 1, 2, exactly(0)},
		// as long as may be
		{`rule "x"{64} => t`, 0, 64, exactly(1)}, {`rule "x"{64} => t`, 0, 63, exactly(0)}, {`rule "x"* => t`, 0, 64, exactly(1)}, {`rule "x"{65} => t`, 0, 64, exactly(0)},
	} {
		wantCount(t, c.rules, denseOf(t, c.rules), c.label, c.n, c.want)
	}
}

// butOne has all words of 8 bytes but one: 2^64 - 1.
const butOne = `([^]{7}[^a] | [^]{6}[^a]"a" | [^]{5}[^a]"aa" | [^]{4}[^a]"aaa" | [^]{3}[^a]"aaaa" | [^]{2}[^a]"aaaaa" | [^][^a]"aaaaaa" | [^a]"aaaaaaa")`

// 2^64 is the first that is too many; what has been too many is so from then on.
func TestGreatCounts(t *testing.T) {
	for _, c := range []struct {
		rules    string
		label, n int
		want     number
	}{
		{`rule [ab]+ => t`, 0, 63, exactly(1 << 63)}, {`rule [ab]+ => t`, 0, 64, tooMany}, {`rule [a-c]+ => t`, 0, 40, exactly(12157665459056928801)}, {`rule [a-c]+ => t`, 0, 41, tooMany}, {`rule [a-c]+ => t`, 0, 64, tooMany},
		// 2^64 - 1, and more than that by one or two
		{`rule "aaaaaaaa" => t`, -1, 8, exactly(math.MaxUint64)}, {`rule "aaaaaaab" | "zzzzzzzz" => t`, -1, 8, exactly(math.MaxUint64 - 1)}, {`rule [] => t`, -1, 8, tooMany}, {`rule [^]* => t`, 0, 8, tooMany}, {`rule [^]* => t`, -1, 8, exactly(0)},
		{`rule ` + butOne + ` => t`, 0, 8, exactly(math.MaxUint64)}, {`rule "a"` + butOne + ` => t`, 0, 9, exactly(math.MaxUint64)}, {`rule "a"` + butOne + ` | "bbbbbbbbb" => t`, 0, 9, tooMany},
		{`rule "0bbbbbbbb" | "a"` + butOne + ` => t`, 0, 9, tooMany}, {`rule [ab]` + butOne + ` => t`, 0, 9, tooMany},
		// too many, and nothing beside them
		{`rule "a"[^]{8} => t`, 0, 9, tooMany}, {`rule "\xff"[^]{8} => t`, 0, 9, tooMany}, {`rule "\x00"[^]{8} => t`, 0, 9, tooMany}, {`rule "a"{56}[^]{8} => t`, 0, 64, tooMany}, {`rule "a"{57}[^]{7} => t`, 0, 64, exactly(1 << 56)},
		{`rule [^]{63} => t`, 0, 63, tooMany}, {`rule [^]{63} => t`, 0, 64, exactly(0)}, {`rule [^]{63} => t`, -1, 63, exactly(0)}, {`rule [^]{63} => t`, -1, 64, tooMany},
	} {
		wantCount(t, c.rules, denseOf(t, c.rules), c.label, c.n, c.want)
	}
}

func TestLengthsOfCounts(t *testing.T) {
	for _, d := range []api.Dense{samples.States(1), samples.Two(), samples.States(600)} {
		for _, n := range []int{-1, -2, 65, 66, 1 << 32, math.MaxInt, math.MinInt} {
			wantNoCount(t, shown(d), d, 0, n)
			wantNoCount(t, shown(d), d, -1, n)
			wantNoCount(t, shown(d), d, -2, n)
		}
		countOf(t, shown(d), d, 0, 0)
		countOf(t, shown(d), d, 0, 64)
	}
}

// Each number from -1 on may be a label, be it no rule's.
func TestLabels(t *testing.T) {
	for _, d := range []api.Dense{samples.States(1), samples.Two(), denseOf(t, `rule [ab]+ => t`), samples.States(600)} {
		for _, label := range []int{-2, -3, -200, math.MinInt, math.MinInt + 1} {
			wantArgs(t, shown(d), d, label)
		}
		for _, label := range []int{199, 200, 201, 1 << 32, math.MaxInt} {
			if label == 199 && len(d.Next) == 600 {
				continue
			}
			for _, n := range []int{0, 1, 64} {
				wantCount(t, shown(d), d, label, n, exactly(0))
			}
			wantNth(t, shown(d), d, label, 0, nothing)
			wantNth(t, shown(d), d, label, math.MaxUint64, nothing)
			wantRank(t, shown(d), d, label, "", no)
			wantRank(t, shown(d), d, label, strings.Repeat("a", 64), no)
		}
	}
}

// States that no word leads to are nothing to it, and no state stands for its label alone.
func TestCountsOfStates(t *testing.T) {
	stays := byTwo([]int{5, 7}, [2]int{0, 0}, [2]int{0, 1})
	wantCount(t, "not reached", stays, 7, 3, exactly(0))
	wantCount(t, "not reached", stays, 5, 3, exactly(1<<24))
	one := byTwo([]int{0, 0, 0}, [2]int{1, 2}, [2]int{0, 1}, [2]int{2, 0})
	wantCount(t, "one label", one, 0, 7, exactly(1<<56))
	wantCount(t, "one label", one, -1, 7, exactly(0))
	for _, at := range []int{0, 1, 7, 8, 63, 64, 65, 599} {
		ring := ringOf(600, func(s int) int { return min(s^at, 1) })
		for _, n := range []int{0, 1, 2, 7, 8, 9, 63, 64} {
			want := kept(new(big.Int).Lsh(big.NewInt(1), uint(8*n)))
			if n == at {
				wantCount(t, at, ring, 0, n, want)
				wantCount(t, at, ring, 1, n, exactly(0))
				continue
			}
			wantCount(t, at, ring, 0, n, exactly(0))
			wantCount(t, at, ring, 1, n, want)
		}
	}
}

func wantCountsBy(t *testing.T, d api.Dense, labels int) {
	t.Helper()
	for label := -1; label < labels; label++ {
		for n, want := range countsBy(d, label) {
			wantCount(t, shown(d), d, label, n, kept(want))
		}
	}
}

func TestCountsOfSmallAutomata(t *testing.T) {
	samples.AllDense(1, 3, func(d api.Dense) { wantCountsBy(t, d, 2) })
	samples.AllDense(2, 3, func(d api.Dense) { wantCountsBy(t, d, 2) })
}

// Each word of a few bytes is counted one by one.
func TestCountsOneByOne(t *testing.T) {
	words := inOrder(allBytes(), 2)
	c := chance{1}
	for range 30 {
		d := c.dense(5, 2)
		for label := -1; label < 3; label++ {
			var counts [3]uint64
			for _, w := range ofLabel(d, label, words) {
				counts[len(w)]++
			}
			for n, want := range counts {
				wantCount(t, shown(d), d, label, n, exactly(want))
			}
		}
	}
}

func TestCountsByChance(t *testing.T) {
	c := chance{2}
	for range 25 {
		wantCountsBy(t, c.dense(8, 3), 4)
		wantCountsBy(t, denseBy(t, c.rules()), 4)
	}
	d := c.Dense(600, 3)
	for n, want := range countsBy(d, 2) {
		if n%16 == 0 || n < 10 {
			wantCount(t, "600 states", d, 2, n, kept(want))
		}
	}
}
