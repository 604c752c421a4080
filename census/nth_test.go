package census_test

import (
	"math"
	"strings"
	"testing"

	"bolter/api"
	"bolter/samples"
)

// P14.2

func TestWordsByPlaces(t *testing.T) {
	for _, c := range []struct {
		rules string
		label int
		k     uint64
		want  answer
	}{
		// the document's
		{`rule [ab]+ => t`, 0, 0, word("a")}, {`rule [ab]+ => t`, 0, 1, word("b")}, {`rule [ab]+ => t`, 0, 2, word("aa")}, {`rule [ab]+ => t`, 0, 5, word("bb")}, {`rule [ab]+ => t`, 0, 6, word("aaa")},
		// the empty word, and none
		{`rule [ab]+ => t`, -1, 0, word("")}, {`rule [ab]+ => t`, -1, 1, word("\x00")}, {`rule [ab]+ => t`, -1, 97, word("\x60")}, {`rule [ab]+ => t`, -1, 98, word("c")}, {`rule [ab]+ => t`, -1, 254, word("\xff")}, {`rule [ab]+ => t`, -1, 255, word("\x00\x00")},
		{`rule () => t`, 0, 0, word("")}, {`rule () => t`, 0, 1, nothing}, {`rule () => t`, 0, math.MaxUint64, nothing}, {`rule () => t`, -1, 0, word("\x00")},
		{``, 0, 0, nothing}, {``, 0, math.MaxUint64, nothing}, {``, -1, 0, word("")}, {``, -1, 1, word("\x00")}, {``, -1, 256, word("\xff")}, {``, -1, 257, word("\x00\x00")}, {``, -1, 256 + 1<<16, word("\xff\xff")}, {`rule [] => t`, 0, 0, nothing},
		// by length, then byte by byte
		{`rule "zz"|"b"|"aaa"|"ab" => t`, 0, 0, word("b")}, {`rule "zz"|"b"|"aaa"|"ab" => t`, 0, 1, word("ab")}, {`rule "zz"|"b"|"aaa"|"ab" => t`, 0, 2, word("zz")}, {`rule "zz"|"b"|"aaa"|"ab" => t`, 0, 3, word("aaa")}, {`rule "zz"|"b"|"aaa"|"ab" => t`, 0, 4, nothing},
		{`rule [\x7f\x80\xff\x00]+ => t`, 0, 0, word("\x00")}, {`rule [\x7f\x80\xff\x00]+ => t`, 0, 2, word("\x80")}, {`rule [\x7f\x80\xff\x00]+ => t`, 0, 3, word("\xff")}, {`rule [\x7f\x80\xff\x00]+ => t`, 0, 19, word("\xff\xff")},
		// several labels
		{"rule \"b\" => t\nrule [a-c]+ => u", 0, 0, word("b")}, {"rule \"b\" => t\nrule [a-c]+ => u", 0, 1, nothing}, {"rule \"b\" => t\nrule [a-c]+ => u", 1, 1, word("c")}, {"rule \"b\" => t\nrule [a-c]+ => u", 1, 2, word("aa")}, {"rule \"b\" => t\nrule [a-c]+ => u", 2, 0, nothing},
	} {
		wantNth(t, c.rules, denseOf(t, c.rules), c.label, c.k, c.want)
	}
}

func TestPlacesFarOn(t *testing.T) {
	x := strings.Repeat("x", 64)
	for _, c := range []struct {
		rules string
		label int
		k     uint64
		want  answer
	}{
		// as long as may be, and longer
		{`rule "x"{64}"y"? => t`, 0, 0, word(x)}, {`rule "x"{64}"y"? => t`, 0, 1, nothing}, {`rule "x"{65} => t`, 0, 0, nothing}, {`rule "x"{65,} => t`, 0, 0, nothing}, {`rule "x"{100} => t`, 0, 5, nothing},
		{`rule "x"* => t`, 0, 64, word(x)}, {`rule "x"* => t`, 0, 65, nothing}, {`rule "x"+ => t`, 0, 63, word(x)}, {`rule "x"+ => t`, 0, 64, nothing}, {`rule "x"* => t`, 0, math.MaxUint64, nothing},
		{`rule "x"{63}[^] => t`, 0, 255, word(x[1:] + "\xff")}, {`rule "x"{63}[^] => t`, 0, 256, nothing},
		// the last places
		{`rule [ab]+ => t`, 0, math.MaxUint64, word(strings.Repeat("a", 63) + "b")}, {`rule [ab]+ => t`, 0, math.MaxUint64 - 1, word(strings.Repeat("a", 64))}, {`rule [ab]+ => t`, 0, math.MaxUint64 - 2, word(strings.Repeat("b", 63))},
		{`rule [ab]{64} => t`, 0, math.MaxUint64, word(strings.Repeat("b", 64))}, {`rule [ab]{64} => t`, 0, 1 << 63, word("b" + strings.Repeat("a", 63))}, {`rule [ab]{64} => t`, 0, 1<<63 - 1, word("a" + strings.Repeat("b", 63))},
		{`rule [^]{8} => t`, 0, math.MaxUint64, word(strings.Repeat("\xff", 8))}, {`rule [^]{8} => t`, 0, 0x0102030405060708, word("\x01\x02\x03\x04\x05\x06\x07\x08")}, {`rule [^]{7} => t`, 0, 1<<56 - 1, word(strings.Repeat("\xff", 7))}, {`rule [^]{7} => t`, 0, 1 << 56, nothing},
		{`rule [^]{9} => t`, 0, math.MaxUint64, word("\x00" + strings.Repeat("\xff", 8))}, {`rule [^]{64} => t`, 0, math.MaxUint64, word(strings.Repeat("\x00", 56) + strings.Repeat("\xff", 8))},
		// many words of a great length, none of which is come to by a lesser byte
		{`rule "q"[^]{20} => t`, 0, 1 << 32, word("q" + strings.Repeat("\x00", 15) + "\x01\x00\x00\x00\x00")}, {`rule "a"{60} | "q"[^]{62} => t`, 0, 1, word("q" + strings.Repeat("\x00", 62))},
		// words of a length that are fewer than 2^64, and some behind them
		{`rule [^]{7}[^a] | [^]{9} => t`, 0, 255<<56 - 1, word(strings.Repeat("\xff", 8))}, {`rule [^]{7}[^a] | [^]{9} => t`, 0, 255 << 56, word(strings.Repeat("\x00", 9))},
	} {
		wantNth(t, c.rules, denseOf(t, c.rules), c.label, c.k, c.want)
	}
}

// The first words of automata, held against all words one by one.
func TestWordsOneByOne(t *testing.T) {
	words := inOrder(allBytes(), 2)
	c := chance{3}
	for range 20 {
		d := c.dense(5, 2)
		for label := -1; label < 2; label++ {
			l := ofLabel(d, label, words)
			for k := 0; k < len(l); k += 1 + c.Of(500) {
				wantNth(t, shown(d), d, label, uint64(k), word(l[k]))
			}
			if len(l) > 0 {
				wantNth(t, shown(d), d, label, uint64(len(l)-1), word(l[len(l)-1]))
			}
		}
	}
}

func TestWordsOfSmallAutomata(t *testing.T) {
	words := inOrder(allBytes(), 1)
	for states := 1; states <= 2; states++ {
		samples.AllDense(states, 3, func(d api.Dense) {
			for label := -1; label <= 1; label++ {
				l := ofLabel(d, label, words)
				for _, k := range []int{0, 1, 2, 97, 98, 99, 255, 256} {
					if k < len(l) {
						wantNth(t, shown(d), d, label, uint64(k), word(l[k]))
					}
				}
				for _, k := range []uint64{0, 1, 2, 300, 1 << 40, math.MaxUint64} {
					wantNthBy(t, shown(d), d, label, k)
				}
			}
		})
	}
}

// Where all words have one label, a word is its place as a number; one word that has not moves those behind it.
func TestPlacesOfAllWords(t *testing.T) {
	all, but := denseOf(t, ``), denseOf(t, `rule "a"{8} => t`)
	left := rankOf(t, "all", all, -1, "aaaaaaaa").n
	c := chance{5}
	for i := range 3000 {
		k := c.place()
		switch {
		case i < 1000:
			k = uint64(i)
		case i < 2000:
			k = left - 500 + uint64(i-1000)
		case i < 2300:
			k = math.MaxUint64 - uint64(i-2000)
		}
		wantNth(t, "all", all, -1, k, word(numbered(k)))
		wantRank(t, "all", all, -1, numbered(k), exactly(k))
		if w := numbered(k); k < left {
			wantNth(t, "all but one", but, -1, k, word(w))
			wantRank(t, "all but one", but, -1, w, exactly(k))
		} else if k > left {
			wantNth(t, "all but one", but, -1, k-1, word(w))
			wantRank(t, "all but one", but, -1, w, exactly(k-1))
		}
	}
	wantRank(t, "all but one", but, -1, "aaaaaaaa", no)
	wantNth(t, "the one", but, 0, 0, word("aaaaaaaa"))
}

func TestWordsByChance(t *testing.T) {
	c := chance{4}
	none, long := 0, 0
	for range 250 {
		for _, d := range []api.Dense{c.dense(8, 2), denseBy(t, c.rules())} {
			for label := -1; label < 3; label++ {
				k := c.place()
				wantNthBy(t, shown(d), d, label, k)
				switch got := nthOf(t, shown(d), d, label, k); {
				case !got.there:
					none++
				case len(got.word) > 4:
					long++
				}
			}
		}
	}
	if min(none, long) < 100 {
		t.Errorf("%d places without a word, %d with a long one", none, long)
	}
}

// All of the last words of finite languages, and what would stand behind them.
func TestLastWords(t *testing.T) {
	for rules, l := range map[string][]string{
		`rule "a"?"b"?"c"? => t`:         {"", "a", "b", "c", "ab", "ac", "bc", "abc"},
		`rule ("a"|"bb"){0,2} => t`:      {"", "a", "aa", "bb", "abb", "bba", "bbbb"},
		`rule "\xff"|"\x00\xff"|() => t`: {"", "\xff", "\x00\xff"},
	} {
		d := denseOf(t, rules)
		wantWords(t, rules, d, 0, l)
		for _, k := range []uint64{0, 1, 2, 1 << 32, math.MaxUint64 - uint64(len(l))} {
			wantNth(t, rules, d, 0, uint64(len(l))+k, nothing)
		}
	}
}
