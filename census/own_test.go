package census_test

import (
	"math"
	"reflect"
	"slices"
	"strings"
	"testing"

	"bolter/api"
	"bolter/census"
	"bolter/samples"
	"bolter/subset"
)

// P14.5

func TestThoseThatMayNotBe(t *testing.T) {
	for what, d := range samples.NotDense() {
		for _, label := range []int{-2, -1, 0, 7, 200} {
			wantArgs(t, what, d, label)
		}
	}
	for s := range 3 {
		for _, b := range []int{0, 'a', 255} {
			for _, to := range []int{-1, 3} {
				d := samples.States(3)
				d.Next[s][b] = to
				wantArgs(t, shown(d), d, 0)
			}
		}
		for _, label := range []int{-2, 200} {
			d := samples.States(3)
			d.Label[s] = label
			wantArgs(t, shown(d), d, 0)
		}
	}
}

func TestEmptyListsAreNone(t *testing.T) {
	for _, d := range []api.Dense{{}, {Next: [][]int{}}, {Label: []int{}}, {Next: [][]int{}, Label: []int{}}, {Next: [][]int{{}}, Label: []int{0}}, {Next: [][]int{nil}, Label: []int{0}}} {
		wantArgs(t, d, d, 0)
	}
	d := samples.States(1)
	for _, w := range [][]byte{nil, {}, []byte("a")[:0]} {
		if k, there, err := census.Rank(d, -1, w); k != 0 || !there || err != nil {
			t.Errorf("%v: %d, %v, %v", w, k, there, err)
		}
	}
}

// all is what all calls tell of an automaton.
type all struct {
	counts, ranks []number
	words         []answer
}

func allOf(t *testing.T, what any, d api.Dense) all {
	t.Helper()
	var x all
	for label := -1; label <= 5; label++ {
		for _, n := range []int{0, 1, 2, 7, 8, 9, 63, 64} {
			x.counts = append(x.counts, countOf(t, what, d, label, n))
		}
		for _, k := range []uint64{0, 1, 2, 300, 1 << 40, math.MaxUint64} {
			x.words = append(x.words, nthOf(t, what, d, label, k))
		}
		for _, w := range []string{"", "a", "ab", "\xff\x00", strings.Repeat("b", 64)} {
			x.ranks = append(x.ranks, rankOf(t, what, d, label, w))
		}
	}
	return x
}

const someRules = "rule [a-z]+ => t\nrule \"if\" => u\nrule () => v\nrule \"0\"+ => w\nrule [^]{9} => x"

// What lies behind a list's length is neither read nor written; what is handed in stays.
func TestWhatIsHandedInStays(t *testing.T) {
	for _, d := range []api.Dense{denseOf(t, someRules), denseOf(t, `rule [ab]+ => t`), samples.Two(), samples.States(200), samples.States(1)} {
		want := allOf(t, shown(d), d)
		whole := samples.DensePieces(d)
		kept := samples.DenseLongs(whole)
		if got := allOf(t, shown(d), whole); !reflect.DeepEqual(got, want) {
			t.Errorf("%s: %s, want %s", short(shown(d)), short(got), short(want))
		}
		if !reflect.DeepEqual(samples.DenseLongs(whole), kept) {
			t.Errorf("%s: written over", short(shown(d)))
		}
	}
	room := []byte("ba" + strings.Repeat("c", 100))
	if k, there, err := census.Rank(denseOf(t, `rule [ab]+ => t`), 0, room[:2]); k != 4 || !there || err != nil || string(room) != "ba"+strings.Repeat("c", 100) {
		t.Errorf("%q: %d, %v, %v", room, k, there, err)
	}
}

// Whoever writes into what is told changes nothing else.
func TestAnswersAreOnesOwn(t *testing.T) {
	d := denseOf(t, someRules)
	want := allOf(t, "some", d)
	first, _, _ := census.Nth(d, 0, 1000)
	second, _, _ := census.Nth(d, 0, 1000)
	clear(first[:cap(first)])
	if got := nthOf(t, "some", d, 0, 1000); got != word(string(second)) || len(second) == 0 || second[0] == 0 {
		t.Errorf("written over: %q, %q", second, got.word)
	}
	if got := allOf(t, "some", d); !reflect.DeepEqual(got, want) {
		t.Errorf("%s, want %s", short(got), short(want))
	}
	kept := string(second)
	for _, row := range append(d.Next, d.Label) {
		clear(row)
	}
	if string(second) != kept {
		t.Errorf("what was handed in is kept: %q", second)
	}
}

// Lists may stand in several places.
func TestSharedLists(t *testing.T) {
	row := slices.Repeat([]int{1, 0}, 128)
	d := api.Dense{Next: [][]int{row, row}, Label: row[:2]}
	wantCount(t, "shared", d, 1, 3, exactly(1<<23))
	wantNth(t, "shared", d, 1, 2, word("\x03"))
	wantNth(t, "shared", d, 0, 128, word("\x00\x00"))
	wantRank(t, "shared", d, 0, "\x02\x00", exactly(384))
	if !slices.Equal(row, slices.Repeat([]int{1, 0}, 128)) {
		t.Errorf("written over: %v", row)
	}
}

// Whatever is handed in, all ends, and the same is told each time.
func TestAllEnds(t *testing.T) {
	c := chance{15}
	may := 0
	for range 3000 {
		d := c.WildDense()
		if !subset.Check(d) {
			wantArgs(t, d, d, c.Of(3)-1)
			continue
		}
		may++
		first := allOf(t, shown(d), d)
		if again := allOf(t, shown(d), d); !reflect.DeepEqual(again, first) {
			t.Errorf("%s: %s, then %s", shown(d), short(first), short(again))
		}
	}
	if min(may, 3000-may) < 200 {
		t.Errorf("%d may be", may)
	}
}
