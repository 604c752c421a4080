package census_test

import (
	"math"
	"strings"
	"testing"

	"bolter/api"
	"bolter/samples"
)

// P14.3

func TestPlacesOfWords(t *testing.T) {
	for _, c := range []struct {
		rules string
		label int
		w     string
		want  number
	}{
		// the document's
		{`rule [ab]+ => t`, 0, "ba", exactly(4)}, {`rule [ab]+ => t`, 0, "c", no}, {`rule [ab]+ => t`, 0, "a", exactly(0)}, {`rule [ab]+ => t`, 0, "bb", exactly(5)},
		// no words of the label, though some stand ahead of them
		{`rule [ab]+ => t`, 0, "", no}, {`rule [ab]+ => t`, 0, "bbc", no}, {`rule [ab]+ => t`, 0, "bbb\x00", no}, {`rule [ab]+ => t`, -1, "a", no}, {`rule [ab]+ => t`, 1, "a", no}, {`rule [ab]+ => t`, 0, "bb\xff", no},
		{"rule \"b\" => t\nrule [a-c]+ => u", 1, "b", no}, {"rule \"b\" => t\nrule [a-c]+ => u", 0, "b", exactly(0)}, {"rule \"b\" => t\nrule [a-c]+ => u", 1, "c", exactly(1)}, {"rule \"b\" => t\nrule [a-c]+ => u", 0, "c", no},
		// the empty word
		{`rule [ab]+ => t`, -1, "", exactly(0)}, {`rule () => t`, 0, "", exactly(0)}, {`rule () => t`, -1, "", no}, {`rule () => t`, -1, "\x00", exactly(0)}, {`rule "a"* => t`, 0, "a", exactly(1)}, {``, -1, "", exactly(0)}, {``, 0, "", no},
		// all bytes
		{``, -1, "\x00", exactly(1)}, {``, -1, "\xff", exactly(256)}, {``, -1, "\x00\x00", exactly(257)}, {``, -1, "\xff\xff", exactly(256 + 1<<16)}, {`rule [\x7f\x80\xff\x00]+ => t`, 0, "\x80\xff", exactly(15)}, {`rule [^a] => t`, 0, "\xff", exactly(254)}, {`rule [^a] => t`, 0, "b", exactly(97)},
		// by length, then byte by byte
		{`rule "zz"|"b"|"aaa"|"ab" => t`, 0, "b", exactly(0)}, {`rule "zz"|"b"|"aaa"|"ab" => t`, 0, "ab", exactly(1)}, {`rule "zz"|"b"|"aaa"|"ab" => t`, 0, "zz", exactly(2)}, {`rule "zz"|"b"|"aaa"|"ab" => t`, 0, "aaa", exactly(3)}, {`rule "zz"|"b"|"aaa"|"ab" => t`, 0, "zzz", no},
	} {
		wantRank(t, c.rules, denseOf(t, c.rules), c.label, c.w, c.want)
	}
}

// 2^64 - 1 words ahead are told, 2^64 are too many; how many stand behind is nothing to it.
func TestGreatPlaces(t *testing.T) {
	a, b := strings.Repeat("a", 63), strings.Repeat("b", 63)
	low, high := strings.Repeat("\x00", 56), strings.Repeat("\xff", 8)
	for _, c := range []struct {
		rules string
		w     string
		want  number
	}{
		{`rule [ab]+ => t`, a, exactly(1<<63 - 2)}, {`rule [ab]+ => t`, b, exactly(math.MaxUint64 - 2)}, {`rule [ab]+ => t`, a + "a", exactly(math.MaxUint64 - 1)}, {`rule [ab]+ => t`, a + "b", exactly(math.MaxUint64)},
		{`rule [ab]+ => t`, a[1:] + "ba", no}, {`rule [ab]+ => t`, a[1:] + "bb", no}, {`rule [ab]+ => t`, "b" + a, no}, {`rule [ab]+ => t`, "b" + b, no}, {`rule [ab]{64} => t`, "b" + b, exactly(math.MaxUint64)}, {`rule [ab]{64} => t`, "a" + b, exactly(1<<63 - 1)},
		{`rule [a-c]{41} => t`, strings.Repeat("c", 41), no}, {`rule [^]* => t`, low[:8], exactly(72340172838076673)}, {`rule [^]* => t`, high, no}, {`rule [^]* => t`, low[:9], no}, {`rule [^]* => t`, low + high, no},
		{`rule [^]{8} => t`, high, exactly(math.MaxUint64)}, {`rule [^]{9} => t`, "\x00" + high, exactly(math.MaxUint64)}, {`rule [^]{9} => t`, "\x01" + low[:8], no}, {`rule [^]{9} => t`, "\xff" + high, no}, {`rule [^]{64} => t`, low + high, exactly(math.MaxUint64)}, {`rule [^]{64} => t`, low[1:] + "\x01" + low[:8], no},
		// just so many words ahead, and one more
		{`rule [^]{8} | "\x00"{9} => t`, low[:9], no}, {`rule ` + butOne + ` | "\x00"{9} => t`, low[:9], exactly(math.MaxUint64)}, {`rule ` + butOne + ` | "\x00"{8}[\x00a] => t`, low[:8] + "a", no}, {`rule ` + butOne + ` | "b" | "\x00"{9} => t`, low[:9], no},
		{`rule "a" | [^]{8} => t`, high, no}, {`rule "a" | [^]{8} => t`, high[1:] + "\xfe", exactly(math.MaxUint64)}, {`rule "a" | [^]{9} => t`, "\x00" + high, no},
		// long words with few ahead
		{`rule "x"* => t`, strings.Repeat("x", 64), exactly(64)}, {`rule "x"* => t`, strings.Repeat("x", 63) + "y", no}, {`rule "x"{64}"y"? => t`, strings.Repeat("x", 64), exactly(0)}, {`rule "q"[^]{20} => t`, "q" + low[:20], exactly(0)}, {`rule [pq][^]{20} => t`, "p" + low[:19] + "\x07", exactly(7)}, {`rule [pq][^]{20} => t`, "q" + low[:20], no},
	} {
		wantRank(t, c.rules, denseOf(t, c.rules), 0, c.w, c.want)
	}
}

func TestLengthsOfRanks(t *testing.T) {
	for _, d := range []api.Dense{samples.States(1), samples.Two(), samples.States(600)} {
		for _, n := range []int{65, 66, 128, 1 << 20} {
			for _, label := range []int{-2, -1, 0, 7, 200} {
				wantNoRank(t, shown(d), d, label, make([]byte, n))
			}
		}
		for _, n := range []int{0, 1, 63, 64} {
			rankOf(t, shown(d), d, 0, strings.Repeat("a", n))
		}
	}
}

// All short words, each with its place among those of its label, and with none among others'.
func TestRanksOneByOne(t *testing.T) {
	words := inOrder(allBytes(), 2)
	c := chance{6}
	for range 20 {
		d := c.dense(5, 2)
		var ahead [3]uint64
		for i, w := range words {
			label := labelBehind(d, w)
			if i < 4 || c.Of(400) == 0 {
				wantRank(t, shown(d), d, label, w, exactly(ahead[label+1]))
				wantRank(t, shown(d), d, (label+2)%3-1, w, no)
				wantRank(t, shown(d), d, (label+3)%3-1, w, no)
			}
			ahead[label+1]++
		}
	}
}

func TestRanksOfSmallAutomata(t *testing.T) {
	words := inOrder("\x00ab\xff", 2)
	for states := 1; states <= 2; states++ {
		samples.AllDense(states, 3, func(d api.Dense) {
			for _, w := range words {
				for label := -1; label <= 1; label++ {
					wantRankBy(t, shown(d), d, label, w)
				}
			}
		})
	}
}

func TestRanksByChance(t *testing.T) {
	c := chance{7}
	none, great := 0, 0
	for range 200 {
		for _, d := range []api.Dense{c.dense(8, 2), denseBy(t, c.rules())} {
			for range 5 {
				w := c.Text(1 + c.Of(64))
				label := labelBehind(d, w)
				wantRankBy(t, shown(d), d, label, w)
				switch got := rankOf(t, shown(d), d, label, w); {
				case !got.ok:
					none++
				case got.n > 1<<40:
					great++
				}
			}
		}
	}
	if min(none, great) < 100 {
		t.Errorf("%d words have too many ahead, %d have many", none, great)
	}
}
